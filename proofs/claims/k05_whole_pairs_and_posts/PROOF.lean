import PyProof.Rows.All
import Wide.All
import OpenK.AllK
import Wide.FinOn
import Lean
import PyProof.EqAt
import PyProof.EqKinds
import PyProof.TupleCall
import PyProof.NeKinds
import KE.KMinKey
import KE.KSortKey
import PySem.Challenge.RW_wellroads_k05_whole_pairs_and_posts
set_option Elab.async false
set_option linter.all false
set_option maxRecDepth 100000
set_option maxHeartbeats 4000000
/-! THE HAND LAYER, for ints, bools, texts, own classes, LISTS and tuples (index, slices, in, append, pop ..), calls, loops. Paste it whole ahead of your own text; what your proof does not reach may be deleted. -/
namespace L2
open PySem PySem.Spec PyProof.Rows

/-- a key: an int or a str -/
abbrev Key := Sum Int Str
def keyIs : Key → Value → Bool
  | .inl k, v => Value.isInt k v
  | .inr x, v => Value.isStrOf x v
def keyH (w : World) : Key → Int
  | .inl k => hashInt k
  | .inr x => hashStr w x
theorem keyIs_shape : ∀ {k : Key} {v : Value}, keyIs k v = true → (∃ i t, k = Sum.inl i ∧ v = Value.int i t) ∨ (∃ x t, k = Sum.inr x ∧ v = Value.str x t)
  | .inl i, v, h => by
    obtain ⟨t, e⟩ := Value.isInt_shape (k := i) (v := v) h
    exact .inl ⟨i, t, rfl, e⟩
  | .inr x, v, h => by
    obtain ⟨t, e⟩ := Value.isStrOf_shape (x := x) (v := v) h
    exact .inr ⟨x, t, rfl, e⟩
theorem keyIs_int (i : Int) (t : Tok) : keyIs (.inl i) (.int i t) = true := by simp [keyIs, Value.isInt]
theorem keyIs_str (x : Str) (t : Tok) : keyIs (.inr x) (.str x t) = true := by simp [keyIs, Value.isStrOf]
theorem key_ll (a b : Int) : decide ((Sum.inl a : Key) = Sum.inl b) = (a == b) := by
  by_cases e : a = b
  · subst e; simp
  · have h : ¬ (Sum.inl a : Key) = Sum.inl b := fun q => e (Sum.inl.inj q)
    rw [decide_eq_false h]
    exact (beq_eq_false_iff_ne.mpr e).symm
theorem key_rr (a b : Str) : decide ((Sum.inr a : Key) = Sum.inr b) = decide (a = b) := by
  by_cases e : a = b
  · subst e; simp
  · have h : ¬ (Sum.inr a : Key) = Sum.inr b := fun q => e (Sum.inr.inj q)
    rw [decide_eq_false h, decide_eq_false e]
theorem key_lr (a : Int) (b : Str) : decide ((Sum.inl a : Key) = Sum.inr b) = false := decide_eq_false (fun q => nomatch q)
theorem key_rl (a : Str) (b : Int) : decide ((Sum.inr a : Key) = Sum.inl b) = false := decide_eq_false (fun q => nomatch q)

def mixKind (prog : Program) (w : World) : PySem.KeyKind prog w Key where
  is := keyIs
  hash := keyH w
  inj := fun v a b ha hb => by
    rcases keyIs_shape ha with ⟨i, t, rfl, rfl⟩ | ⟨x, t, rfl, rfl⟩
    · rcases keyIs_shape hb with ⟨j, u, rfl, e⟩ | ⟨y, u, rfl, e⟩
      · injection e with e1 _; rw [e1]
      · exact nomatch e
    · rcases keyIs_shape hb with ⟨j, u, rfl, e⟩ | ⟨y, u, rfl, e⟩
      · exact nomatch e
      · injection e with e1 _; rw [e1]
  byValue := fun k v h => by
    rcases keyIs_shape h with ⟨i, t, rfl, rfl⟩ | ⟨x, t, rfl, rfl⟩ <;> rfl
  pyHash := fun hv h => by
    rcases keyIs_shape hv with ⟨i, t, rfl, rfl⟩ | ⟨x, t, rfl, rfl⟩
    · exact wpAny_pyHash_int h
    · exact wpAny_pyHash_str h
  eqBool := fun hu hv h => by
    rcases keyIs_shape hu with ⟨i, t, rfl, rfl⟩ | ⟨x, t, rfl, rfl⟩
    · rcases keyIs_shape hv with ⟨j, u, rfl, rfl⟩ | ⟨y, u, rfl, rfl⟩
      · rw [key_ll] at h; exact wpAny_eqBool_int h
      · rw [key_lr] at h; exact SeqAt.EqAt.int_str i t y u _ _ _ _ h
    · rcases keyIs_shape hv with ⟨j, u, rfl, rfl⟩ | ⟨y, u, rfl, rfl⟩
      · rw [key_rl] at h; exact SeqAt.EqAt.str_int x t j u _ _ _ _ h
      · rw [key_rr] at h; exact wpAny_eqBool_str h
  «strs» := fun k x t v h => by
    rcases keyIs_shape h with ⟨i, u, rfl, e⟩ | ⟨y, u, rfl, e⟩
    · exact nomatch e
    · injection e with e1 _
      subst e1
      cases v <;> rfl

theorem mixKind_int (prog : Program) (w : World) (i : Int) (t : Tok) : (mixKind prog w).is (.inl i) (.int i t) = true := keyIs_int i t
theorem mixKind_str (prog : Program) (w : World) (x : Str) (t : Tok) : (mixKind prog w).is (.inr x) (.str x t) = true := keyIs_str x t
end L2

namespace L2
open PySem PySem.Spec PyProof.Rows

/-- a value, without the heap -/
inductive V where
  | non | bl (b : Bool) | int (i : Int) | str (x : Str) | byt (b : Array UInt8) | flt (b : UInt64) | ref (a : Addr) | ty (n : String)
  deriving DecidableEq

def RelV : V → Value → Prop
  | .non, u => u = Value.none
  | .bl b, u => u = Value.bool b
  | .int i, u => ∃ t, u = Value.int i t
  | .str x, u => ∃ t, u = Value.str x t
  | .byt b, u => ∃ t, u = Value.bytes b t
  | .flt b, u => ∃ t, u = Value.float b t
  | .ref a, u => u = Value.ref a
  | .ty n, u => u = Value.type n

abbrev Vals : List V → List Value → Prop := Paired RelV
theorem Vals.length {xs : List V} {us : List Value} (r : Vals xs us) : xs.length = us.length := Paired.length r
theorem Vals.get : ∀ {xs : List V} {us : List Value} {i : Nat} {x : V}, Vals xs us → xs[i]? = some x → ∃ u, us[i]? = some u ∧ RelV x u
  | _, _, _, _, .nil, e => by simp at e
  | _, _, 0, _, .cons r _, e => by simp at e; subst e; exact ⟨_, rfl, r⟩
  | _, _, i + 1, x, .cons _ t, e => by
    obtain ⟨u, h1, h2⟩ := Vals.get (i := i) (x := x) t (by simpa using e)
    exact ⟨u, by simpa using h1, h2⟩
theorem Vals.set {x : V} {u : Value} (r : RelV x u) : ∀ {xs : List V} {us : List Value} (i : Nat), Vals xs us → Vals (xs.set i x) (us.set i u)
  | _, _, _, .nil => .nil
  | _, _, 0, .cons _ t => .cons r t
  | _, _, i + 1, .cons q t => .cons q (Vals.set r i t)
theorem Vals.append : ∀ {xs ys : List V} {us ws : List Value}, Vals xs us → Vals ys ws → Vals (xs ++ ys) (us ++ ws)
  | _, _, _, _, .nil, s => s
  | _, _, _, _, .cons r t, s => .cons r (Vals.append t s)
theorem Vals.take : ∀ {xs : List V} {us : List Value} (n : Nat), Vals xs us → Vals (xs.take n) (us.take n)
  | _, _, 0, _ => .nil
  | _, _, _ + 1, .nil => .nil
  | _, _, n + 1, .cons r t => .cons r (Vals.take n t)
theorem Vals.drop : ∀ {xs : List V} {us : List Value} (n : Nat), Vals xs us → Vals (xs.drop n) (us.drop n)
  | _, _, 0, r => r
  | _, _, _ + 1, .nil => .nil
  | _, _, n + 1, .cons _ t => Vals.drop n t
def RelO : Option V → Option Value → Prop
  | some v, some u => RelV v u
  | none, none => True
  | _, _ => False
def KV {κ : Type} : List (κ × V) → List (κ × Value) → Prop := Paired fun (p : κ × V) (q : κ × Value) => p.1 = q.1 ∧ RelV p.2 q.2

/-- a key of a dict (00_mix): an int or a text -/
def kV : Key → V
  | .inl i => .int i
  | .inr x => .str x

/-- what stands at a tracked address -/
inductive HO where
  /-- a list -/
  | lst (xs : List V)
  /-- a tuple (never changes) -/
  | tup (xs : List V)
  /-- a dict whose keys are ints and texts; one whose keys are tuples of ints and texts (the empty one is both) -/
  | dK (kvs : List (Key × V)) | dT (kvs : List (List Key × V))
  /-- a set of ints: its members, its size -/
  | set (S : Int → Bool) (n : Nat)
  /-- an instance of the class at C, its dict at dx, its attributes -/
  | ins (C dx : Addr) (fs : List (Str × V))
  /-- the dict of the instance at x -/
  | own (x : Addr)
  /-- the dict of an exception -/
  | xd (fs : List (Str × V))
  /-- a bound method, f of x -/
  | met (f x : Addr)
  /-- a range object lo, lo + 1, .. below hi -/
  | rng (lo hi : Int)
  /-- a thing that is known to the object (the script; a dict while a loop walks it): read, never written while it is so -/
  | frz (o : Obj) (u : HO)
  /-- a code object's table -/
  | tbl (ps : Array Value)
  /-- any other thing, by what is true of its one object (a def of one's own: SetO a S n := HO.ext fun h => ..) -/
  | ext (φ : Heap → Prop)

abbrev Hp := Addr → Option HO
def upd (H : Hp) (a : Addr) (o : HO) : Hp := fun b => if b = a then some o else H b
theorem upd_same {H : Hp} {a : Addr} {o : HO} : upd H a o a = some o := by unfold upd; rw [if_pos rfl]
theorem upd_ne {H : Hp} {a b : Addr} {o : HO} (h : b ≠ a) : upd H a o b = H b := by unfold upd; rw [if_neg h]
theorem upd_upd {H : Hp} {a : Addr} {o u : HO} : upd (upd H a o) a u = upd H a u := by
  funext b; unfold upd; split <;> rfl
/-- two objects of different content stand apart -/
theorem ne_of {H : Hp} {a b : Addr} {o u : HO} (h : H a = some o) (h' : H b = some u) (d : o ≠ u) : a ≠ b := by
  intro e; subst e; rw [h] at h'; exact d (Option.some.inj h')
theorem ne_of_none {H : Hp} {a b : Addr} {o : HO} (h : H a = some o) (h' : H b = none) : a ≠ b := by
  intro e; subst e; rw [h] at h'; cases h'

section
variable (P : Program) (w : World)
def ObjOk (H : Hp) (h : Heap) (a : Addr) : HO → Prop
  | .lst xs => xs.length ≤ sizeLine ∧ ∃ (its : List Value) (n : Nat), Vals xs its ∧ h.get? a = some { cls := .type "list", data := .seq its.toArray n }
  | .tup xs => xs.length ≤ sizeLine ∧ ∃ its : List Value, Vals xs its ∧ IsTup h a its.toArray
  | .dK kvs => kvs.length ≤ sizeLine ∧ (a == sysModules) = false ∧ ∃ vs, KV kvs vs ∧ h.DictOf (mixKind P w) a vs
  | .dT kvs => kvs.length ≤ sizeLine ∧ (a == sysModules) = false ∧ ∃ xs : List (List Key × Addr × Value),
      Paired (fun (p : List Key × V) (q : List Key × Addr × Value) => p.1 = q.1 ∧ H q.2.1 = some (.tup (p.1.map kV)) ∧ RelV p.2 q.2.2) kvs xs ∧
      ∃ o es ep, h.get? a = some o ∧ o.ExactDict ∧ o.data = .dict es ep ∧ es.toList = xs.map (entryOfKey (tupleKind (mixKind P w))) ∧ (xs.map (·.1)).Nodup
  | .set S n => h.SetOf (intKind P w) a S n
  | .ins C dx fs => H dx = some (.own a) ∧ fs.length ≤ 1000 ∧ dx ≠ a ∧ h.get? a = some (PySem.W.instObj C dx) ∧
      ∃ mA, h.Ns1 dx mA ∧ (∀ f, RelO (fs.lookup f) (mA f)) ∧ PySem.Within mA (fs.map (·.1))
  | .own _ => ∃ o, h.get? a = some o
  | .xd fs => ∃ mA, h.Ns1 a mA ∧ ∀ f, RelO (fs.lookup f) (mA f)
  | .rng lo hi => ∃ t u v, h.get? a = some { cls := .type "range", data := .fields #[.int lo t, .int hi u, .int 1 v] }
  | .frz o u => h.get? a = some o ∧ ObjOk H h a u
  | .tbl ps => h.get? a = some { cls := .none, data := .fields ps }
  | .met f x => h.get? a = some (PySem.W.methodObj (.ref f) (.ref x))
  | .ext φ => φ h ∧ (∃ o, h.get? a = some o) ∧ ∀ h1 h2 : Heap, φ h1 → (∀ o, h1.get? a = some o → h2.get? a = some o) → φ h2
/-- the abstract heap is held -/
def HOk (H : Hp) (h : Heap) : Prop := ∀ a o, H a = some o → ObjOk P w H h a o
end

section
variable {P : Program} {w : World} {H H' : Hp} {h h' : Heap} {a : Addr} {o : HO}
theorem ObjOk.lt (x : ObjOk P w H h a o) : a < h.objs.size := by
  cases o with
  | lst xs => obtain ⟨_, _, _, _, e⟩ := x; exact Heap.lt_size e
  | tup xs => obtain ⟨_, _, _, p⟩ := x; exact p.lt
  | dK kvs => obtain ⟨_, _, _, _, o, _, _, e, _⟩ := x; exact Heap.lt_size e
  | dT kvs => obtain ⟨_, _, _, _, o, _, _, e, _⟩ := x; exact Heap.lt_size e
  | set S n => obtain ⟨o, _, _, _, e, _⟩ := x; exact Heap.lt_size e
  | ins C dx fs => obtain ⟨_, _, _, e, _⟩ := x; exact Heap.lt_size e
  | own y => obtain ⟨_, e⟩ := x; exact Heap.lt_size e
  | xd fs => obtain ⟨_, ⟨_, _, _, e, _⟩, _⟩ := x; exact Heap.lt_size e
  | rng lo hi => obtain ⟨_, _, _, e⟩ := x; exact Heap.lt_size e
  | frz ob u => obtain ⟨e, _⟩ := x; exact Heap.lt_size e
  | tbl ps => exact Heap.lt_size (show h.get? a = some _ from x)
  | met f y => exact Heap.lt_size (show h.get? a = some _ from x)
  | ext φ => obtain ⟨_, ⟨_, e⟩, _⟩ := x; exact Heap.lt_size e
theorem Paired.mapP {α β : Type} {F G : α → β → Prop} : ∀ {l₁ : List α} {l₂ : List β}, Paired F l₁ l₂ → (∀ a b, F a b → G a b) → Paired G l₁ l₂
  | _, _, .nil, _ => .nil
  | _, _, .cons r t, f => .cons (f _ _ r) (Paired.mapP t f)
/-- what an object's description leans on: its own object, its own dict, the tuples -/
theorem ObjOk.stay (x : ObjOk P w H h a o) (k : ∀ b u, (b = a ∨ H b = some (.own a)) → h.get? b = some u → h'.get? b = some u)
    (ho : ∀ b, H b = some (.own a) → H' b = some (.own a)) (ht : ∀ b xs, H b = some (.tup xs) → H' b = some (.tup xs)) : ObjOk P w H' h' a o := by
  induction o with
  | lst xs => obtain ⟨z, its, n, r, e⟩ := x; exact ⟨z, its, n, r, k _ _ (.inl rfl) e⟩
  | tup xs => obtain ⟨z, its, r, ob, e, c⟩ := x; exact ⟨z, its, r, ob, k _ _ (.inl rfl) e, c⟩
  | dK kvs => obtain ⟨z, y, vs, r, ob, es, ep, e, c⟩ := x; exact ⟨z, y, vs, r, ob, es, ep, k _ _ (.inl rfl) e, c⟩
  | dT kvs =>
    obtain ⟨z, y, xs, r, ob, es, ep, e, c⟩ := x
    exact ⟨z, y, xs, Paired.mapP r fun p q z => ⟨z.1, ht _ _ z.2.1, z.2.2⟩, ob, es, ep, k _ _ (.inl rfl) e, c⟩
  | set S n => obtain ⟨ob, es, ep, t, e, c⟩ := x; exact ⟨ob, es, ep, t, k _ _ (.inl rfl) e, c⟩
  | ins C dx fs =>
    obtain ⟨d, z, ne, e, mA, ⟨od, es, ep, e2, c⟩, r⟩ := x
    exact ⟨ho _ d, z, ne, k _ _ (.inl rfl) e, mA, ⟨od, es, ep, k _ _ (.inr d) e2, c⟩, r⟩
  | own y => obtain ⟨ob, e⟩ := x; exact ⟨ob, k _ _ (.inl rfl) e⟩
  | xd fs => obtain ⟨mA, ⟨od, es, ep, e, c⟩, r⟩ := x; exact ⟨mA, ⟨od, es, ep, k _ _ (.inl rfl) e, c⟩, r⟩
  | rng lo hi => obtain ⟨t, u, v, e⟩ := x; exact ⟨t, u, v, k _ _ (.inl rfl) e⟩
  | frz ob u ih => obtain ⟨e, q⟩ := x; exact ⟨k _ _ (.inl rfl) e, ih q⟩
  | tbl ps =>
    have e : h.get? a = some { cls := .none, data := .fields ps } := x
    show h'.get? a = some { cls := .none, data := .fields ps }
    exact k a _ (.inl rfl) e
  | met f y =>
    have e : h.get? a = some (PySem.W.methodObj (.ref f) (.ref y)) := x
    show h'.get? a = some (PySem.W.methodObj (.ref f) (.ref y))
    exact k a _ (.inl rfl) e
  | ext φ => obtain ⟨p, ⟨o, e⟩, st⟩ := x; exact ⟨st _ _ p fun o q => k _ _ (.inl rfl) q, ⟨o, k _ _ (.inl rfl) e⟩, st⟩
theorem HOk.lt (x : HOk P w H h) (e : H a = some o) : a < h.objs.size := (x a o e).lt
theorem HOk.fresh (x : HOk P w H h) (e : h.objs.size ≤ a) : H a = none := by
  cases q : H a with
  | none => rfl
  | some u => exact absurd (Nat.lt_of_lt_of_le (x.lt q) e) (Nat.lt_irrefl _)
/-- every object of the heap is kept -/
theorem HOk.kept (x : HOk P w H h) (k : ∀ b u, h.get? b = some u → h'.get? b = some u) : HOk P w H h' := fun a o e =>
  (x a o e).stay (fun b u _ q => k b u q) (fun _ q => q) fun _ _ q => q
/-- a new object is laid and tracked -/
theorem HOk.laid (x : HOk P w H h) (k : ∀ b u, h.get? b = some u → h'.get? b = some u) (hp : h.objs.size ≤ a) (new : ObjOk P w (upd H a o) h' a o) : HOk P w (upd H a o) h' := fun b u e => by
  have hn := x.fresh hp
  by_cases hb : b = a
  · subst hb; rw [upd_same] at e; cases e; exact new
  · rw [upd_ne hb] at e
    exact (x b u e).stay (fun c v _ q => k c v q) (fun c q => by rw [upd_ne (ne_of_none q hn)]; exact q) fun c xs q => by rw [upd_ne (ne_of_none q hn)]; exact q
end

/-- what may be read as u: it is u, or a known u -/
def Rd (H : Hp) (a : Addr) (u : HO) : Prop := H a = some u ∨ ∃ o, H a = some (.frz o u)
theorem Rd.ok {P : Program} {w : World} {H : Hp} {h : Heap} {a : Addr} {u : HO} (r : Rd H a u) (x : HOk P w H h) : ObjOk P w H h a u := by
  rcases r with r | ⟨o, r⟩
  · exact x a u r
  · obtain ⟨_, q⟩ := x a _ r
    exact q
/-- what may be written -/
def Mut : Option HO → Prop
  | some (.lst _) => True
  | some (.dK _) => True
  | some (.dT _) => True
  | some (.set _ _) => True
  | some (.ins _ _ _) => True
  | some (.ext _) => True
  | _ => False
section
variable {P : Program} {w : World} {H : Hp} {h h' : Heap} {x e : Addr} {o' : HO}
/-- the object at e is changed: x itself, or the dict of the instance x -/
theorem HOk.write (ok : HOk P w H h) (mu : Mut (H x)) (he : e = x ∨ H e = some (.own x)) (k : ∀ b u, b ≠ e → h.get? b = some u → h'.get? b = some u) (heo : ∃ u, h'.get? e = some u)
    (new : ObjOk P w (upd H x o') h' x o') : HOk P w (upd H x o') h' := fun b u q => by
  have nown : ∀ c y, H c = some (.own y) → c ≠ x := fun c y r z => by subst z; rw [r] at mu; exact mu
  have ntup : ∀ c xs, H c = some (.tup xs) → c ≠ x := fun c xs r z => by subst z; rw [r] at mu; exact mu
  by_cases hb : b = x
  · subst hb; rw [upd_same] at q; cases q; exact new
  · rw [upd_ne hb] at q
    by_cases hbe : b = e
    · have q' : H b = some (.own x) := by
        rcases he with z | z
        · exact absurd (hbe.trans z) hb
        · rw [hbe]; exact z
      rw [q] at q'; cases q'
      obtain ⟨v, hv⟩ := heo
      exact ⟨v, by rw [hbe]; exact hv⟩
    · refine (ok b u q).stay (fun c v hc r => k c v ?_ r) (fun c r => by rw [upd_ne (nown c b r)]; exact r) fun c xs r => by rw [upd_ne (ntup c xs r)]; exact r
      rcases hc with rfl | hc
      · exact hbe
      · rintro rfl
        rcases he with z | z
        · exact nown c b hc z
        · rw [hc] at z; cases z; exact hb rfl
end

/-! ### kept unless tracked; of the frames at fs (the callers') the slots may change (an exception that passes writes there); of the records at ex (iterators) nothing is said -/
structure Un (fs ex : List Addr) (H H' : Hp) (h h' : Heap) : Prop where
  keep : ∀ b o, h.get? b = some o → H b = none → b ∉ fs → b ∉ ex → h'.get? b = some o
  slot : ∀ b o, h.get? b = some o → H b = none → b ∈ fs → b ∉ ex → ∃ sl, h'.get? b = some { o with slots := sl }
  free : ∀ b o, h.get? b = some o → H b = none → b ∉ ex → H' b = none
  there : ∀ b o, h.get? b = some o → b ∉ ex → ∃ o', h'.get? b = some o'
  tups : ∀ b xs, H b = some (.tup xs) → H' b = some (.tup xs)
  frzs : ∀ b o u, H b = some (.frz o u) → H' b = some (.frz o u)
  tbls : ∀ b ps, H b = some (.tbl ps) → ∃ more, H' b = some (.tbl (ps ++ more))
section
variable {fs fs' ex ex' : List Addr} {H H1 H2 : Hp} {h h1 h2 h' : Heap} {a x e : Addr} {o : HO}
theorem Un.any (u : Un fs ex H H1 h h1) {b : Addr} {ob : Obj} (q : h.get? b = some ob) (n : H b = none) (hx : b ∉ ex) : ∃ sl, h1.get? b = some { ob with slots := sl } := by
  by_cases hb : b ∈ fs
  · exact u.slot b ob q n hb hx
  · exact ⟨ob.slots, u.keep b ob q n hb hx⟩
theorem Un.trans (a : Un fs ex H H1 h h1) (b : Un fs ex H1 H2 h1 h2) : Un fs ex H H2 h h2 where
  keep := fun c ob q n hc hx => b.keep c ob (a.keep c ob q n hc hx) (a.free c ob q n hx) hc hx
  slot := fun c ob q n hc hx => by
    obtain ⟨sl, e1⟩ := a.slot c ob q n hc hx
    obtain ⟨sl', e2⟩ := b.slot c _ e1 (a.free c ob q n hx) hc hx
    exact ⟨sl', e2⟩
  free := fun c ob q n hx => by
    obtain ⟨o', e1⟩ := a.there c ob q hx
    exact b.free c o' e1 (a.free c ob q n hx) hx
  there := fun c ob q hx => by
    obtain ⟨o', e1⟩ := a.there c ob q hx
    exact b.there c o' e1 hx
  tups := fun c xs q => b.tups c xs (a.tups c xs q)
  frzs := fun c ob xs q => b.frzs c ob xs (a.frzs c ob xs q)
  tbls := fun c ps q => by
    obtain ⟨m1, e1⟩ := a.tbls c ps q
    obtain ⟨m2, e2⟩ := b.tbls c _ e1
    exact ⟨m1 ++ m2, by rw [e2, Array.append_assoc]⟩
theorem Un.kept (k : ∀ b u, h.get? b = some u → h'.get? b = some u) : Un fs ex H H h h' :=
  ⟨fun b ob q _ _ _ => k b ob q, fun b ob q _ _ _ => ⟨ob.slots, k b ob q⟩, fun _ _ _ n _ => n, fun b ob q _ => ⟨ob, k b ob q⟩, fun _ _ q => q, fun _ _ _ q => q, fun _ ps q => ⟨#[], by rw [q]; simp⟩⟩
theorem Un.refl : Un fs ex H H h h := Un.kept fun _ _ q => q
theorem Un.laid (k : ∀ b u, h.get? b = some u → h'.get? b = some u) (hp : h.objs.size ≤ a) (hn : H a = none) : Un fs ex H (upd H a o) h h' where
  keep := fun b u q _ _ _ => k b u q
  slot := fun b u q _ _ _ => ⟨u.slots, k b u q⟩
  free := fun b u q n _ => by rw [upd_ne (Nat.ne_of_lt (Nat.lt_of_lt_of_le (Heap.lt_size q) hp))]; exact n
  there := fun b u q _ => ⟨u, k b u q⟩
  tups := fun b xs q => by rw [upd_ne (ne_of_none q hn)]; exact q
  frzs := fun b u xs q => by rw [upd_ne (ne_of_none q hn)]; exact q
  tbls := fun b ps q => ⟨#[], by rw [upd_ne (ne_of_none q hn), q]; simp⟩
theorem Un.write (mu : Mut (H x)) (he : e = x ∨ H e = some (.own x)) (k : ∀ b u, b ≠ e → h.get? b = some u → h'.get? b = some u) (heo : ∃ u, h'.get? e = some u) : Un fs ex H (upd H x o) h h' := by
  have hx : ∀ b, H b = none → b ≠ x := fun b n z => by subst z; rw [n] at mu; exact mu
  have hb : ∀ b, H b = none → b ≠ e := fun b n z => by
    subst z
    rcases he with r | r
    · exact hx b n r
    · rw [n] at r; cases r
  have hm : ∀ b u, H b = some u → ¬ Mut (some u) → b ≠ x := fun b u q nm z => by subst z; rw [q] at mu; exact nm mu
  refine ⟨fun b u q n _ _ => k b u (hb b n) q, fun b u q n _ _ => ⟨u.slots, k b u (hb b n) q⟩, fun b u q n _ => by rw [upd_ne (hx b n)]; exact n, fun b u q _ => ?_,
    fun b xs q => by rw [upd_ne (hm b _ q fun z => z)]; exact q, fun b u xs q => by rw [upd_ne (hm b _ q fun z => z)]; exact q, fun b ps q => ⟨#[], by rw [upd_ne (hm b _ q fun z => z), q]; simp⟩⟩
  by_cases hbe : b = e
  · subst hbe; exact heo
  · exact ⟨u, k b u hbe q⟩
end

/-! ### the heap without what is tracked -/
def trk (h : Heap) (H : Hp) : List Addr := (List.range h.objs.size).filter fun a => (H a).isSome
def hidT (h : Heap) (H : Hp) : Heap := PySem.W.hideAll h (trk h H)
theorem hidT_size (h : Heap) (H : Hp) : (hidT h H).objs.size = h.objs.size := PySem.W.hideAll_size _ _
theorem hidT_get {h : Heap} {H : Hp} {b : Addr} {o : Obj} (e : h.get? b = some o) (n : H b = none) : (hidT h H).get? b = some o :=
  PySem.W.hideAll_get _ e fun hm => by
    have q : (H b).isSome = true := (List.mem_filter.mp hm).2
    rw [n] at q; simp at q
theorem of_hidT {h : Heap} {H : Hp} {b : Addr} {o : Obj} (e : (hidT h H).get? b = some o) : h.get? b = some o ∧ H b = none := by
  have e' : h.get? b = some o := PySem.W.of_hideAll (trk h H) e
  refine ⟨e', ?_⟩
  cases q : H b with
  | none => rfl
  | some x =>
    have hm : b ∈ trk h H := List.mem_filter.mpr ⟨List.mem_range.mpr (Heap.lt_size e'), by simp [q]⟩
    have z : (hidT h H).get? b = none := PySem.W.hideAll_none (trk h H) hm
    rw [z] at e; cases e

/-! ### OpenK's ledger, filled with every new object but one -/
def allNews (g h : Heap) (L : Addr) : List (Addr × Obj) := (List.range h.objs.size).filterMap fun a => if a = L ∨ (g.get? a).isSome = true then none else (h.get? a).map fun o => (a, o)
def rest (g h : Heap) (L d : Addr) : List (Addr × Obj) := (allNews g h L).filter fun p => decide (p.1 ≠ d)
end L2

namespace L2
open PySem PySem.Spec PyProof.Rows

/-- the module's facts, over the base: the heap at the law's entry without what is tracked there -/
structure Mod (K : PySem.W.Frag) (mg : Str → Option Value) (base : Heap) : Prop where
  kin : K.In base
  glob : base.Ns mainGlobals mg
  blt : ∃ mb, base.Ns builtinsNs mb ∧ ∀ x : Str, x ≠ "__name__" → mb x = bootBuiltins x
  nolimit : base.NoLimit

/-- the context: a def's body (or a comprehension's block) running. base: fixed through the whole law; s₀, H₀: the entry; outer: the frames whose slots others may change (a def's callers); stack: all frames that run;
   ex: iterators that were made ahead of the entry and are walked here (a comprehension's); fn: the names whose cells were made at the entry (a def: all; a comprehension's block: its own); calm: not within an except suite; pn: pins that every state bears; xe: what is wanted of an exception that leaves the code -/
structure Cx where
  prog : Program
  w : World
  K : PySem.W.Frag
  mg : Str → Option Value
  base : Heap
  A : Around
  N : List Str
  s₀ : Shared
  H₀ : Hp
  env : Env
  outer : List Env
  stack : List Env
  ex : List Addr
  fn : Str → Bool
  calm : Bool
  pn : List (Addr × Obj)
  xe : Value → Shared → Prop
/-- the callers' frames -/
def frs (l : List Env) : List Addr := l.filterMap (·.frame)
abbrev Cx.fs (X : Cx) : List Addr := frs X.outer

def Vis (sc : Scope) (x : Str) : Prop := sc.names.lookup x = some .local ∨ sc.names.lookup x = some .cell ∨ sc.names.lookup x = some .free
def Loc (sc : Scope) (x : Str) : Prop := sc.names.lookup x = some .local ∨ sc.names.lookup x = some .cell
def Look (env : Env) (h : Heap) (m : Str → Option Value) (x : Str) (u : Value) : Prop :=
  (env.kindOf x = some .local ∧ m x = some u) ∨ ((env.kindOf x = some .cell ∨ env.kindOf x = some .free) ∧ ∃ c, env.cells.lookup x = some c ∧ h.IsCell c (some u))

structure Cx.Ok (X : Cx) : Prop where
  mod : Mod X.K X.mg X.base
  kind : X.env.scope.kind = .function
  glob : X.env.globals = mainGlobals
  blt : X.env.builtins = builtinsNs
  above : X.s₀.heap.objs.size ≤ X.env.locals
  inj : ∀ x y c, X.env.cells.lookup x = some c → X.env.cells.lookup y = some c → x = y
  has : ∀ x, (X.env.kindOf x = some .cell ∨ X.env.kindOf x = some .free) → ∃ c, X.env.cells.lookup x = some c
  cab : ∀ x c, X.fn x = true → X.env.cells.lookup x = some c → X.s₀.heap.objs.size ≤ c
  hd : X.calm = true → X.A.handled = none
  frames : X.A.frames = some X.stack
  stk : X.stack = X.outer ∨ (X.stack = X.env :: X.outer ∧ X.env.frame = some X.env.locals)
  exf : ∀ b ∈ X.ex, b ≠ X.env.locals ∧ ∀ x c, X.env.cells.lookup x = some c → c ≠ b
  bs : ∀ b o, X.base.get? b = some o → X.s₀.heap.get? b = some o ∧ X.H₀ b = none
  bsz : X.base.objs.size ≤ X.s₀.heap.objs.size
  noex : ∀ b o, X.base.get? b = some o → b ∉ X.ex
  exfs : ∀ b ∈ X.ex, b ∉ X.fs
  funs : X.s₀.heap.FunFrames X.base X.outer
  frf : ∀ b ∈ X.fs, X.H₀ b = none

structure Inv (X : Cx) (pins : List (Addr × Obj)) (σ : List (Option V)) (H : Hp) (s : Shared) : Prop where
  ok : X.Ok
  os : s.os = X.s₀.os
  bare : AllBare s.gens
  base : Un X.fs X.ex X.H₀ H X.s₀.heap s.heap
  loc : ∃ m, s.heap.Ns X.env.locals m ∧ ∀ (i : Nat) (x : Str) (v : V), X.N[i]? = some x → σ[i]? = some (some v) → Vis X.env.scope x → ∃ u, RelV v u ∧ Look X.env s.heap m x u
  cell : ∀ x c, X.env.cells.lookup x = some c → ∃ v, s.heap.IsCell c v
  free : H X.env.locals = none
  freeC : ∀ x c, X.env.cells.lookup x = some c → H c = none
  pin : ∀ p ∈ X.pn ++ pins, s.heap.get? p.1 = some p.2 ∧ H p.1 = none ∧ p.1 ≠ X.env.locals ∧ p.1 ∉ X.fs ∧ ∀ v, p.2.data ≠ .cell v
  hok : HOk X.prog X.w H s.heap
  len : σ.length = X.N.length

section
variable {X : Cx} {pins : List (Addr × Obj)} {σ : List (Option V)} {H H' : Hp} {s : Shared} {h' : Heap}

theorem Cx.Ok.nofr (ok : X.Ok) {b : Addr} {o : Obj} (e : X.base.get? b = some o) : b ∉ X.fs := fun hb => by
  have := (ok.funs.mem hb).1
  rw [e] at this; cases this
theorem Inv.bs (I : Inv X pins σ H s) : ∀ b o, X.base.get? b = some o → s.heap.get? b = some o ∧ H b = none := fun b o e =>
  ⟨I.base.keep b o (I.ok.bs b o e).1 (I.ok.bs b o e).2 (I.ok.nofr e) (I.ok.noex b o e), I.base.free b o (I.ok.bs b o e).1 (I.ok.bs b o e).2 (I.ok.noex b o e)⟩
theorem Inv.bk (I : Inv X pins σ H s) : ∀ b o, X.base.get? b = some o → s.heap.get? b = some o := fun b o e => (I.bs b o e).1
theorem Inv.mod (I : Inv X pins σ H s) : Mod X.K X.mg X.base := I.ok.mod
theorem Inv.kIn (I : Inv X pins σ H s) : X.K.In s.heap := I.ok.mod.kin.keeps I.bk
theorem Inv.lt (I : Inv X pins σ H s) : X.env.locals < s.heap.objs.size := let ⟨_, hn, _⟩ := I.loc; hn.lt
theorem Inv.sz (I : Inv X pins σ H s) : X.s₀.heap.objs.size ≤ s.heap.objs.size := Nat.le_trans I.ok.above (Nat.le_of_lt I.lt)
theorem Inv.nofs (I : Inv X pins σ H s) {a : Addr} (h : s.heap.objs.size ≤ a) : a ∉ X.fs := fun hb => by
  obtain ⟨_, o, ho, _⟩ := I.ok.funs.mem hb
  exact absurd (Nat.lt_of_lt_of_le (Heap.lt_size ho) (Nat.le_trans I.sz h)) (Nat.lt_irrefl _)
theorem Inv.cne (I : Inv X pins σ H s) : ∀ x c, X.env.cells.lookup x = some c → c ≠ X.env.locals := fun x c e z => by
  obtain ⟨v, o, ho, hd⟩ := I.cell x c e
  obtain ⟨m, ⟨o', es, ep, ho', hd', _⟩, _⟩ := I.loc
  rw [z, ho'] at ho; cases ho; rw [hd'] at hd; cases hd
theorem Inv.funs (I : Inv X pins σ H s) : s.heap.FunFrames X.base X.outer := by
  have all : ∀ (l : List Env), (∀ b ∈ frs l, b ∈ X.fs) → X.s₀.heap.FunFrames X.base l → s.heap.FunFrames X.base l := by
    intro l
    induction l with
    | nil => intro _ _; trivial
    | cons env r ih =>
      intro hs hl
      obtain ⟨hk, ⟨L, o, hf, hn, ho, hd⟩, hr⟩ := hl
      have hL : L ∈ X.fs := hs L (by unfold frs; rw [List.filterMap_cons, hf]; exact List.mem_cons_self)
      obtain ⟨sl, e⟩ := I.base.slot L o ho (I.ok.frf L hL) hL fun z => I.ok.exfs L z hL
      exact ⟨hk, ⟨L, _, hf, hn, e, hd⟩, ih (fun b hb => hs b (by unfold frs; rw [List.filterMap_cons, hf]; exact List.mem_cons_of_mem _ hb)) hr⟩
  exact all X.outer (fun _ hb => hb) I.ok.funs

/-- the frames that run, for a call -/
theorem Inv.stack (I : Inv X pins σ H s) : s.heap.FunFrames X.base X.stack := by
  rcases I.ok.stk with e | ⟨e, hf⟩
  · rw [e]; exact I.funs
  · rw [e]
    obtain ⟨m, hn, _⟩ := I.loc
    refine .cons (by rw [I.ok.kind]; decide) hf hn ?_ I.funs
    exact Heap.get?_none_of_le (Nat.le_trans I.ok.bsz I.ok.above)
theorem Inv.stkSub (I : Inv X pins σ H s) : ∀ b ∈ frs X.stack, b ∈ X.env.locals :: X.fs := fun b hb => by
  rcases I.ok.stk with e | ⟨e, hf⟩
  · rw [e] at hb; exact List.mem_cons_of_mem _ hb
  · rw [e] at hb
    unfold frs at hb
    rw [List.filterMap_cons, hf] at hb
    exact hb
theorem Inv.stkFree (I : Inv X pins σ H s) : ∀ b ∈ frs X.stack, H b = none := fun b hb => by
  rcases List.mem_cons.mp (I.stkSub b hb) with e | hb
  · rw [e]; exact I.free
  · obtain ⟨_, o, ho, _⟩ := I.ok.funs.mem hb
    exact I.base.free b o ho (I.ok.frf b hb) fun z => I.ok.exfs b z hb

/-- THE STEP: the untracked objects but the frame and the records at ch are kept (the callers' frames up to slots), the frame's map is kept, the new abstract heap is held -/
theorem Inv.step {g' : Array GenState} {t' : Nat} {d' : Drawn} {ch : List Addr} (I : Inv X pins σ H s)
    (hch : ∀ b ∈ ch, (b ∈ X.ex ∨ X.s₀.heap.objs.size ≤ b) ∧ b ≠ X.env.locals ∧ (∀ x c, X.env.cells.lookup x = some c → c ≠ b) ∧ ∀ p ∈ X.pn ++ pins, p.1 ≠ b)
    (keep : ∀ b o, b ≠ X.env.locals → b ∉ X.fs → b ∉ ch → s.heap.get? b = some o → H b = none → h'.get? b = some o)
    (slot : ∀ b o, b ≠ X.env.locals → b ∈ X.fs → b ∉ ch → s.heap.get? b = some o → H b = none → ∃ sl, h'.get? b = some { o with slots := sl }) (free : ∀ b o, b ∉ ch → s.heap.get? b = some o → H b = none → H' b = none)
    (there : ∀ b o, b ∉ ch → s.heap.get? b = some o → ∃ o', h'.get? b = some o')
    (tups : ∀ b xs, H b = some (.tup xs) → H' b = some (.tup xs)) (frzs : ∀ b o u, H b = some (.frz o u) → H' b = some (.frz o u)) (tbls : ∀ b ps, H b = some (.tbl ps) → ∃ more, H' b = some (.tbl (ps ++ more)))
    (ns : ∀ m, s.heap.Ns X.env.locals m → h'.Ns X.env.locals m) (hok : HOk X.prog X.w H' h') (hg : AllBare g') :
    Inv X pins σ H' { s with heap := h', gens := g', drawn := d', toks := t' } := by
  have neL : ∀ b o, X.s₀.heap.get? b = some o → b ≠ X.env.locals := fun b o e => Nat.ne_of_lt (Nat.lt_of_lt_of_le (Heap.lt_size e) I.ok.above)
  have neC : ∀ b o, X.s₀.heap.get? b = some o → b ∉ X.ex → b ∉ ch := fun b o e hx hb => by
    rcases (hch b hb).1 with z | z
    · exact hx z
    · exact absurd (Nat.lt_of_lt_of_le (Heap.lt_size e) z) (Nat.lt_irrefl _)
  have cellK : ∀ x c, X.env.cells.lookup x = some c → ∀ v, s.heap.IsCell c v → h'.IsCell c v := fun x c e v ⟨o, ho, hd⟩ => by
    have nch : c ∉ ch := fun z => (hch c z).2.2.1 x c e rfl
    by_cases hc : c ∈ X.fs
    · obtain ⟨sl, q⟩ := slot c o (I.cne x c e) hc nch ho (I.freeC x c e)
      exact ⟨_, q, hd⟩
    · exact ⟨o, keep c o (I.cne x c e) hc nch ho (I.freeC x c e), hd⟩
  refine ⟨I.ok, I.os, hg, ⟨fun b o e n hb hx => ?_, fun b o e n hb hx => ?_, fun b o e n hx => ?_, fun b o e hx => ?_, fun b xs e => tups b xs (I.base.tups b xs e), fun b o xs e => frzs b o xs (I.base.frzs b o xs e), fun b ps e => ?_⟩, ?_, fun x c e => ?_, ?_, fun x c e => ?_, fun p hp => ?_, hok, I.len⟩
  · exact keep b o (neL b o e) hb (neC b o e hx) (I.base.keep b o e n hb hx) (I.base.free b o e n hx)
  · obtain ⟨sl, e1⟩ := I.base.slot b o e n hb hx
    obtain ⟨sl', e2⟩ := slot b _ (neL b o e) hb (neC b o e hx) e1 (I.base.free b o e n hx)
    exact ⟨sl', e2⟩
  · obtain ⟨o', e1⟩ := I.base.there b o e hx
    exact free b o' (neC b o e hx) e1 (I.base.free b o e n hx)
  · obtain ⟨o', e1⟩ := I.base.there b o e hx
    exact there b o' (neC b o e hx) e1
  · obtain ⟨m1, e1⟩ := I.base.tbls b ps e
    obtain ⟨m2, e2⟩ := tbls b _ e1
    exact ⟨m1 ++ m2, by rw [e2, Array.append_assoc]⟩
  · obtain ⟨m, hn, hl⟩ := I.loc
    refine ⟨m, ns m hn, fun i x v e1 e2 e3 => ?_⟩
    obtain ⟨u, r, l⟩ := hl i x v e1 e2 e3
    refine ⟨u, r, ?_⟩
    rcases l with l | ⟨k, c, e, z⟩
    · exact .inl l
    · exact .inr ⟨k, c, e, cellK x c e _ z⟩
  · obtain ⟨v, z⟩ := I.cell x c e
    exact ⟨v, cellK x c e v z⟩
  · obtain ⟨m, ⟨o, _, _, ho, _⟩, _⟩ := I.loc
    exact free _ o (fun z => (hch _ z).2.1 rfl) ho I.free
  · obtain ⟨v, o, ho, hd⟩ := I.cell x c e
    exact free c o (fun z => (hch c z).2.2.1 x c e rfl) ho (I.freeC x c e)
  · obtain ⟨e, n, ne, nf, d⟩ := I.pin p hp
    have nch : p.1 ∉ ch := fun z => (hch p.1 z).2.2.2 p hp rfl
    exact ⟨keep p.1 p.2 ne nf nch e n, free p.1 p.2 nch e n, ne, nf, d⟩
/-- .. where the frame's own object is kept too -/
theorem Inv.un {t' : Nat} (I : Inv X pins σ H s) (u : Un X.fs [] H H' s.heap h') (hok : HOk X.prog X.w H' h') : Inv X pins σ H' { s with heap := h', toks := t' } := by
  obtain ⟨m, ⟨o, es, ep, ho, r⟩, _⟩ := id I.loc
  obtain ⟨sl, hL⟩ := u.any ho I.free (by simp)
  exact I.step (g' := s.gens) (d' := s.drawn) (ch := []) (fun _ z => nomatch z) (fun b o _ hb _ e n => u.keep b o e n hb (by simp)) (fun b o _ hb _ e n => u.slot b o e n hb (by simp)) (fun b o _ e n => u.free b o e n (by simp)) (fun b o _ e => u.there b o e (by simp)) u.tups u.frzs u.tbls (fun m' hm => by
    obtain ⟨o', es', ep', ho', r'⟩ := hm
    rw [ho] at ho'; cases ho'
    exact ⟨_, es', ep', hL, r'⟩) hok I.bare
/-- behind a call (or a comprehension's block): the slots of this frame may have changed too, the records at ch may have turned -/
theorem Inv.call {g' : Array GenState} {t' : Nat} {d' : Drawn} {ch : List Addr} (I : Inv X pins σ H s) (u : Un (frs X.stack) ch H H' s.heap h') (hok : HOk X.prog X.w H' h') (hg : AllBare g')
    (hch : ∀ b ∈ ch, (b ∈ X.ex ∨ X.s₀.heap.objs.size ≤ b) ∧ b ≠ X.env.locals ∧ (∀ x c, X.env.cells.lookup x = some c → c ≠ b) ∧ ∀ p ∈ X.pn ++ pins, p.1 ≠ b) :
    Inv X pins σ H' { s with heap := h', gens := g', drawn := d', toks := t' } := by
  obtain ⟨m, ⟨o, es, ep, ho, r⟩, _⟩ := id I.loc
  obtain ⟨sl, hL⟩ := u.any ho I.free fun z => (hch _ z).2.1 rfl
  exact I.step (ch := ch) hch (fun b o hL hb hc e n => u.keep b o e n (fun z => (List.mem_cons.mp (I.stkSub b z)).elim hL hb) hc) (fun b o _ _ hc e n => u.any e n hc) (fun b o hc e n => u.free b o e n hc) (fun b o hc e => u.there b o e hc) u.tups u.frzs u.tbls (fun m' hm => by
    obtain ⟨o', es', ep', ho', r'⟩ := hm
    rw [ho] at ho'; cases ho'
    exact ⟨_, es', ep', hL, r'⟩) hok hg
/-- an untracked record of ours (an iterator) has turned -/
theorem Inv.turned {t' : Nat} {it : Addr} (I : Inv X pins σ H s) (k : ∀ b o, b ≠ it → s.heap.get? b = some o → h'.get? b = some o) (hn : H it = none) (hL : it ≠ X.env.locals)
    (h1 : it ∈ X.ex ∨ X.s₀.heap.objs.size ≤ it) (h2 : ∀ x c, X.env.cells.lookup x = some c → c ≠ it) (h3 : ∀ p ∈ X.pn ++ pins, p.1 ≠ it) : Inv X pins σ H { s with heap := h', toks := t' } := by
  have nit : ∀ b u, H b = some u → b ≠ it := fun b u e z => by rw [z, hn] at e; cases e
  refine I.step (g' := s.gens) (d' := s.drawn) (ch := [it]) (fun b hb => ?_) (fun b o _ _ hc e _ => k b o (fun z => hc (by simp [z])) e) (fun b o _ _ hc e _ => ⟨o.slots, k b o (fun z => hc (by simp [z])) e⟩) (fun _ _ _ _ n => n)
    (fun b o hc e => ⟨o, k b o (fun z => hc (by simp [z])) e⟩) (fun _ _ e => e) (fun _ _ _ e => e) (fun b ps e => ⟨#[], by rw [e]; simp⟩) (fun m hm => ?_) (fun b u e => ?_) I.bare
  · have e : b = it := by simpa using hb
    subst e
    exact ⟨h1, hL, h2, h3⟩
  · obtain ⟨o, es, ep, ho, r⟩ := hm
    exact ⟨o, es, ep, k _ o (Ne.symm hL) ho, r⟩
  · refine (I.hok b u e).stay (fun c v hc q => k c v ?_ q) (fun _ q => q) fun _ _ q => q
    rcases hc with z | z
    · rw [z]; exact nit b u e
    · exact nit c _ z
theorem Inv.tok (I : Inv X pins σ H s) (t : Nat) : Inv X pins σ H { s with toks := t } := I.un (h' := s.heap) (t' := t) Un.refl I.hok
/-- all objects kept -/
theorem Inv.kept {t' : Nat} (I : Inv X pins σ H s) (k : ∀ b u, s.heap.get? b = some u → h'.get? b = some u) : Inv X pins σ H { s with heap := h', toks := t' } := I.un (Un.kept k) (I.hok.kept k)
/-- a new object laid and tracked -/
theorem Inv.laid {a : Addr} {o : HO} {t' : Nat} (I : Inv X pins σ H s) (k : ∀ b u, s.heap.get? b = some u → h'.get? b = some u) (hp : s.heap.objs.size ≤ a) (new : ObjOk X.prog X.w (upd H a o) h' a o) :
    Inv X pins σ (upd H a o) { s with heap := h', toks := t' } := I.un (Un.laid k hp (I.hok.fresh hp)) (I.hok.laid k hp new)
/-- an object written -/
theorem Inv.write {x e : Addr} {o : HO} {t' : Nat} (I : Inv X pins σ H s) (mu : Mut (H x)) (he : e = x ∨ H e = some (.own x)) (k : ∀ b u, b ≠ e → s.heap.get? b = some u → h'.get? b = some u) (heo : ∃ u, h'.get? e = some u)
    (new : ObjOk X.prog X.w (upd H x o) h' x o) : Inv X pins σ (upd H x o) { s with heap := h', toks := t' } := I.un (Un.write mu he k heo) (I.hok.write mu he k heo new)
theorem Inv.pins_of {pins' : List (Addr × Obj)} (I : Inv X pins σ H s) (h : ∀ p ∈ pins', s.heap.get? p.1 = some p.2 ∧ H p.1 = none ∧ p.1 ≠ X.env.locals ∧ p.1 ∉ X.fs ∧ ∀ v, p.2.data ≠ .cell v) : Inv X pins' σ H s :=
  ⟨I.ok, I.os, I.bare, I.base, I.loc, I.cell, I.free, I.freeC, fun p hp => (List.mem_append.mp hp).elim (fun z => I.pin p (List.mem_append_left _ z)) (h p), I.hok, I.len⟩

theorem nodup_ix {N : List Str} (hN : N.Nodup) {i j : Nat} {x : Str} (a : N[i]? = some x) (b : N[j]? = some x) : i = j := by
  obtain ⟨h1, e1⟩ := List.getElem?_eq_some_iff.mp a
  obtain ⟨h2, e2⟩ := List.getElem?_eq_some_iff.mp b
  exact (List.getElem_inj hN).mp (e1.trans e2.symm)

/-- a name is stored; what changed -/
theorem store_ok2 {M : Model} {A : Around} {E : Value → Shared → Prop} {i : Nat} {x : Str} {v : V} {u : Value} {Q : Unit → Shared → Prop} (I : Inv X pins σ H s) (hN : X.N.Nodup) (hi : X.N[i]? = some x) (hx : Loc X.env.scope x) (r : RelV v u)
    (h : ∀ s', Inv X pins (σ.set i (some v)) H s' → (∃ a, Heap.SameBut a s.heap s'.heap ∧ (a = X.env.locals ∨ X.env.cells.lookup x = some a)) → Q () s') (hf : X.fn x = true ∨ X.env.scope.names.lookup x = some .local := by first | exact .inl rfl | exact .inr rfl | assumption) : wpAny M A (storeName X.env x u) Q E s := by
  obtain ⟨m, hn, hl⟩ := id I.loc
  have hcls : (X.env.scope.kind == .class || (X.env.scope.kind == .module && X.env.locals != X.env.globals)) = false := by rw [I.ok.kind]; rfl
  have hiσ : i < σ.length := by rw [I.len]; exact (List.getElem?_eq_some_iff.mp hi).1
  have cne := I.cne
  have tracked : ∀ {a : Addr} {h' : Heap}, (∃ o, s.heap.get? a = some o ∧ H a = none) → Heap.SameBut a s.heap h' → HOk X.prog X.w H h' := fun {a h'} ha hs b ob e => by
    obtain ⟨_, _, hfree⟩ := ha
    refine (I.hok b ob e).stay (fun c w' hc q => (hs.2 c ?_).trans q) (fun _ q => q) fun _ _ q => q
    rintro rfl
    rcases hc with rfl | hc
    · rw [hfree] at e; cases e
    · rw [hfree] at hc; cases hc
  rcases hx with hk | hk
  · refine wpAny_storeName_local hk hn (fun h' hn' hs => ?_) hcls
    obtain ⟨oL, _, _, hoL, _⟩ := id hn
    refine h _ ⟨I.ok, I.os, I.bare, ⟨fun b o e n hb hx => ?_, fun b o e n hb hx => ?_, I.base.free, fun b o e hx => ?_, I.base.tups, I.base.frzs, I.base.tbls⟩, ⟨_, hn', fun j y v' e1 e2 e3 => ?_⟩, fun y c e => ?_, I.free, I.freeC, fun p hp => ?_, tracked ⟨oL, hoL, I.free⟩ hs, by simpa using I.len⟩ ⟨_, hs, .inl rfl⟩
    · exact (hs.2 b (Nat.ne_of_lt (Nat.lt_of_lt_of_le (Heap.lt_size e) I.ok.above))).trans (I.base.keep b o e n hb hx)
    · obtain ⟨sl, e1⟩ := I.base.slot b o e n hb hx
      exact ⟨sl, (hs.2 b (Nat.ne_of_lt (Nat.lt_of_lt_of_le (Heap.lt_size e) I.ok.above))).trans e1⟩
    · obtain ⟨o', e1⟩ := I.base.there b o e hx
      exact ⟨o', (hs.2 b (Nat.ne_of_lt (Nat.lt_of_lt_of_le (Heap.lt_size e) I.ok.above))).trans e1⟩
    · by_cases hj : j = i
      · subst hj
        rw [hi] at e1; cases e1
        rw [List.getElem?_set_self hiσ] at e2
        cases e2
        exact ⟨u, r, .inl ⟨hk, by simp⟩⟩
      · rw [List.getElem?_set_ne (Ne.symm hj)] at e2
        obtain ⟨u', r', q⟩ := hl j y v' e1 e2 e3
        refine ⟨u', r', ?_⟩
        rcases q with ⟨k, e⟩ | ⟨k, c, e, z⟩
        · refine .inl ⟨k, ?_⟩
          have : y ≠ x := fun e => hj (nodup_ix hN e1 (e ▸ hi))
          simp [this, e]
        · exact .inr ⟨k, c, e, z.sameBut hs (cne y c e)⟩
    · obtain ⟨w', z⟩ := I.cell y c e
      exact ⟨w', z.sameBut hs (cne y c e)⟩
    · obtain ⟨e, n, ne, nf, d⟩ := I.pin p hp
      exact ⟨(hs.2 p.1 ne).trans e, n, ne, nf, d⟩
  · have hfn : X.fn x = true := by
      rcases hf with z | z
      · exact z
      · rw [z] at hk; cases hk
    obtain ⟨c, hc⟩ := I.ok.has x (.inl hk)
    obtain ⟨w', z⟩ := I.cell x c hc
    refine wpAny_storeName_cell I.ok.kind hk hc z (fun h' hc' hs => ?_)
    obtain ⟨oc, hoc, hocd⟩ := id z
    refine h { s with heap := h' } ⟨I.ok, I.os, I.bare, ⟨fun b o e n hb hx => ?_, fun b o e n hb hx => ?_, I.base.free, fun b o e hx => ?_, I.base.tups, I.base.frzs, I.base.tbls⟩, ⟨m, hn.sameBut hs (Ne.symm (cne x c hc)), fun j y v' e1 e2 e3 => ?_⟩, fun y c' e => ?_, I.free, I.freeC, fun p hp => ?_, tracked ⟨oc, hoc, I.freeC x c hc⟩ hs, by simpa using I.len⟩ ⟨c, hs, .inr hc⟩
    · exact (hs.2 b (Nat.ne_of_lt (Nat.lt_of_lt_of_le (Heap.lt_size e) (I.ok.cab x c hfn hc)))).trans (I.base.keep b o e n hb hx)
    · obtain ⟨sl, e1⟩ := I.base.slot b o e n hb hx
      exact ⟨sl, (hs.2 b (Nat.ne_of_lt (Nat.lt_of_lt_of_le (Heap.lt_size e) (I.ok.cab x c hfn hc)))).trans e1⟩
    · obtain ⟨o', e1⟩ := I.base.there b o e hx
      exact ⟨o', (hs.2 b (Nat.ne_of_lt (Nat.lt_of_lt_of_le (Heap.lt_size e) (I.ok.cab x c hfn hc)))).trans e1⟩
    · by_cases hj : j = i
      · subst hj
        rw [hi] at e1; cases e1
        rw [List.getElem?_set_self hiσ] at e2
        cases e2
        exact ⟨u, r, .inr ⟨.inl hk, c, hc, hc'⟩⟩
      · rw [List.getElem?_set_ne (Ne.symm hj)] at e2
        obtain ⟨u', r', q⟩ := hl j y v' e1 e2 e3
        refine ⟨u', r', ?_⟩
        rcases q with q | ⟨k, c', e, z'⟩
        · exact .inl q
        · refine .inr ⟨k, c', e, z'.sameBut hs ?_⟩
          rintro rfl
          exact hj (nodup_ix hN e1 (I.ok.inj _ _ _ e hc ▸ hi))
    · by_cases hcc : c' = c
      · subst hcc; exact ⟨_, hc'⟩
      · obtain ⟨w2, z2⟩ := I.cell y c' e
        exact ⟨w2, z2.sameBut hs hcc⟩
    · obtain ⟨e, n, ne, nf, d⟩ := I.pin p hp
      refine ⟨(hs.2 p.1 ?_).trans e, n, ne, nf, d⟩
      intro q
      rw [q, hoc] at e
      have q' : oc = p.2 := Option.some.inj e
      exact d w' (by rw [← q']; exact hocd)
theorem store_ok {M : Model} {A : Around} {E : Value → Shared → Prop} {i : Nat} {x : Str} {v : V} {u : Value} {Q : Unit → Shared → Prop} (I : Inv X pins σ H s) (hN : X.N.Nodup) (hi : X.N[i]? = some x) (hx : Loc X.env.scope x) (r : RelV v u)
    (h : ∀ s', Inv X pins (σ.set i (some v)) H s' → Q () s') (hf : X.fn x = true ∨ X.env.scope.names.lookup x = some .local := by first | exact .inl rfl | exact .inr rfl | assumption) : wpAny M A (storeName X.env x u) Q E s :=
  store_ok2 I hN hi hx r (fun s' I' _ => h s' I') hf
/-- behind a call or a block, the state as it is -/
theorem Inv.call' {s' : Shared} {ch : List Addr} (I : Inv X pins σ H s) (ho : s'.os = s.os) (u : Un (frs X.stack) ch H H' s.heap s'.heap) (hok : HOk X.prog X.w H' s'.heap) (hg : AllBare s'.gens)
    (hch : ∀ b ∈ ch, (b ∈ X.ex ∨ X.s₀.heap.objs.size ≤ b) ∧ b ≠ X.env.locals ∧ (∀ x c, X.env.cells.lookup x = some c → c ≠ b) ∧ ∀ p ∈ X.pn ++ pins, p.1 ≠ b) : Inv X pins σ H' s' := by
  obtain ⟨h', g', d', t', o'⟩ := s'
  have e : o' = s.os := ho
  subst e
  exact I.call (g' := g') (t' := t') (d' := d') u hok hg hch
end

/-! ### the judgements -/
/-- an exception: its class, its own dict's address (where it has one), the abstract heap behind it -/
abbrev XK := Value → Option Addr → Hp → Prop
abbrev St := List (Option V)
abbrev VK := V → Hp → Prop
/-- an expression's reading; a test's; an argument list's -/
abbrev TE := St → Hp → VK → Prop
abbrev TT := St → Hp → (Bool → Hp → Prop) → Prop
abbrev TA := St → Hp → (List V → Hp → Prop) → Prop
/-- what is wanted behind a statement -/
structure Ends where
  nx : St → Hp → Prop
  rt : VK
  bk : St → Hp → Prop := fun _ _ => False
  ct : St → Hp → Prop := fun _ _ => False
abbrev TS := Ends → St → Hp → Prop

def EP (X : Cx) (pins : List (Addr × Obj)) (σ : St) (Q : VK) (u : Value) (s' : Shared) : Prop := ∃ v H', Inv X pins σ H' s' ∧ RelV v u ∧ Q v H'
def TP (X : Cx) (pins : List (Addr × Obj)) (σ : St) (Q : Bool → Hp → Prop) (b : Bool) (s' : Shared) : Prop := ∃ H', Inv X pins σ H' s' ∧ Q b H'
def AP (X : Cx) (pins : List (Addr × Obj)) (σ : St) (Q : List V → Hp → Prop) (us : List Value) (s' : Shared) : Prop := ∃ vs H', Inv X pins σ H' s' ∧ Vals vs us ∧ Q vs H'
def SP (X : Cx) (pins : List (Addr × Obj)) (D : Ends) (f : Flow) (s' : Shared) : Prop :=
  match f with
  | .next => ∃ σ' H', Inv X pins σ' H' s' ∧ D.nx σ' H'
  | .brk => ∃ σ' H', Inv X pins σ' H' s' ∧ D.bk σ' H'
  | .cont => ∃ σ' H', Inv X pins σ' H' s' ∧ D.ct σ' H'
  | .ret u => ∃ v σ' H', Inv X pins σ' H' s' ∧ RelV v u ∧ D.rt v H'

def PE (X : Cx) (e : Expr) (t : TE) : Prop :=
  ∀ (pins : List (Addr × Obj)) (s : Shared) (σ : St) (H : Hp) (Q : VK), Inv X pins σ H s → t σ H Q → wpAny (model X.prog X.w) X.A (eval e X.env) (EP X pins σ Q) X.xe s
def PT (X : Cx) (e : Expr) (t : TT) : Prop :=
  ∀ (pins : List (Addr × Obj)) (s : Shared) (σ : St) (H : Hp) (Q : Bool → Hp → Prop), Inv X pins σ H s → t σ H Q → wpAny (model X.prog X.w) X.A (isTrue e X.env (eval e X.env)) (TP X pins σ Q) X.xe s
/-- a test whatever its 'whole' is (and, or) -/
def PW (X : Cx) (e : Expr) (t : TT) : Prop :=
  ∀ (whole : Sem Value) (pins : List (Addr × Obj)) (s : Shared) (σ : St) (H : Hp) (Q : Bool → Hp → Prop), Inv X pins σ H s → t σ H Q → wpAny (model X.prog X.w) X.A (isTrue e X.env whole) (TP X pins σ Q) X.xe s
theorem PW.pt {X : Cx} {e : Expr} {t : TT} (h : PW X e t) : PT X e t := h _
/-- an argument list (no star), from the left -/
def PA (X : Cx) (es : List Expr) (t : TA) : Prop :=
  ∀ (pos : Pos) (pins : List (Addr × Obj)) (s : Shared) (σ : St) (H : Hp) (Q : List V → Hp → Prop), Inv X pins σ H s → t σ H Q → wpAny (model X.prog X.w) X.A (spliced (backTo pos (starEach es X.env))) (AP X pins σ Q) X.xe s
def PS (X : Cx) (st : Stmt) (t : TS) : Prop :=
  ∀ (pins : List (Addr × Obj)) (s : Shared) (σ : St) (H : Hp) (D : Ends), Inv X pins σ H s → t D σ H → wpAny (model X.prog X.w) X.A (exec st X.env) (SP X pins D) X.xe s
def PSs (X : Cx) (st : List Stmt) (t : TS) : Prop :=
  ∀ (pins : List (Addr × Obj)) (s : Shared) (σ : St) (H : Hp) (D : Ends), Inv X pins σ H s → t D σ H → wpAny (model X.prog X.w) X.A (execs st X.env) (SP X pins D) X.xe s
/-- weaken the end -/
theorem thn {α : Type} {t : Sem α} {Q Q' : α → Shared → Prop} {M : Model} {A : Around} {E : Value → Shared → Prop} {s : Shared} (h : wpAny M A t Q E s) (hQ : ∀ a s, Q a s → Q' a s) : wpAny M A t Q' E s := wpAny_mono h hQ fun _ _ x => x
end L2

namespace L2
open PySem PySem.Spec PyProof.Rows
section
variable {X : Cx}

/-- two expressions in a row -/
theorem bin {a b : Expr} {ta tb : TE} (ha : PE X a ta) (hb : PE X b tb) {pins : List (Addr × Obj)} {s : Shared} {σ : St} {H : Hp} {R : V → V → Hp → Prop} (I : Inv X pins σ H s) (h : ta σ H fun x H1 => tb σ H1 fun y H2 => R x y H2)
    {α : Type} {Q : α → Shared → Prop} {f : Value → Value → Sem α}
    (hf : ∀ v u s2 x y H2, Inv X pins σ H2 s2 → RelV x v → RelV y u → R x y H2 → wpAny (model X.prog X.w) X.A (f v u) Q X.xe s2) :
    wpAny (model X.prog X.w) X.A (eval a X.env) (fun v s₁ => wpAny (model X.prog X.w) X.A (eval b X.env) (fun u s₂ => wpAny (model X.prog X.w) X.A (f v u) Q X.xe s₂) X.xe s₁) X.xe s := by
  refine thn (ha pins s σ H _ I h) fun v s1 hz_ => ?_
  obtain ⟨x, H1, I1, r1, q1⟩ := hz_
  refine thn (hb pins s1 σ H1 _ I1 q1) fun u s2 hz_ => ?_
  obtain ⟨y, H2, I2, r2, q2⟩ := hz_
  exact hf v u s2 x y H2 I2 r1 r2 q2

/-! ### names and constants -/
def tVar (i : Nat) : TE := fun σ H Q => ∃ v, σ[i]? = some (some v) ∧ Q v H
def tC (v : V) : TE := fun _ H Q => Q v H
theorem pe_var {i : Nat} {x : Str} {pos : Pos} (hN : X.N[i]? = some x) (hv : Vis X.env.scope x) (hd : (x == ("__debug__" : Str)) = false := by decide) (hcd : (x == ("__classdict__" : Str)) = false := by decide) : PE X (.Name x pos) (tVar i) := by
  intro pins s σ H Q I h
  obtain ⟨v, e, h⟩ := h
  obtain ⟨m, hn, hl⟩ := I.loc
  obtain ⟨u, r, l⟩ := hl i x v hN e hv
  have fin : EP X pins σ Q u s := ⟨v, H, I, r, h⟩
  rcases l with ⟨hk, hm⟩ | ⟨hk, c, hc, hcell⟩
  · exact wpAny_Name (wpAny_loadName_local I.ok.kind hk hn hm fin) hd
  · rcases hk with hk | hk
    · exact wpAny_Name (wpAny_loadName_cell I.ok.kind hk hc hcell fin) hd
    · exact wpAny_Name (wpAny_loadName_free I.ok.kind hk hc hcell fin hcd) hd
theorem pe_int {i j pos} : PE X (.Constant (.int i) j pos) (tC (.int i)) := fun _ _ _ H _ I h => wpAny_Constant_int ⟨.int i, H, I.tok _, ⟨_, rfl⟩, h⟩
theorem pe_bl {b j pos} : PE X (.Constant (.bool b) j pos) (tC (.bl b)) := fun _ _ _ H _ I h => Constant_bool ⟨.bl b, H, I, rfl, h⟩
/-- a global name of the def -/
def Gl (X : Cx) (x : Str) : Prop := X.env.kindOf x = some .globalImplicit
theorem ld_glob {E : Value → Shared → Prop} {pins : List (Addr × Obj)} {s : Shared} {σ : St} {H : Hp} {x : Str} {u : Value} {pos : Pos} {Q : Value → Shared → Prop} (I : Inv X pins σ H s) (hg : Gl X x) (hm : X.mg x = some u) (h : Q u s)
    (hd : (x == ("__debug__" : Str)) = false := by decide) : wpAny (model X.prog X.w) X.A (eval (.Name x pos) X.env) Q E s :=
  Calls.Name_function_global I.ok.kind hg (Calls.loadGlobal_global (by rw [I.ok.glob]; exact I.mod.glob.keeps I.bk) hm h) hd
theorem ld_blt {E : Value → Shared → Prop} {pins : List (Addr × Obj)} {s : Shared} {σ : St} {H : Hp} {x : Str} {u : Value} {pos : Pos} {Q : Value → Shared → Prop} (I : Inv X pins σ H s) (hg : Gl X x) (hm : X.mg x = none) (hv : bootBuiltins x = some u) (h : Q u s)
    (hn : x ≠ "__name__" := by decide) (hd : (x == ("__debug__" : Str)) = false := by decide) : wpAny (model X.prog X.w) X.A (eval (.Name x pos) X.env) Q E s := by
  obtain ⟨mb, h1, h2⟩ := I.mod.blt
  exact Calls.Name_function_global I.ok.kind hg (Calls.loadGlobal_builtin (by rw [I.ok.glob]; exact I.mod.glob.keeps I.bk) hm (by rw [I.ok.blt]; exact h1.keeps I.bk) ((h2 x hn).trans hv) h) hd
/-- a module's constant, a class, a function, as a value -/
theorem pe_glob {x : Str} {v : V} {u : Value} {pos : Pos} (hg : Gl X x) (hm : X.mg x = some u) (r : RelV v u) (hd : (x == ("__debug__" : Str)) = false := by decide) : PE X (.Name x pos) (tC v) :=
  fun _ _ _ H _ I h => ld_glob I hg hm ⟨v, H, I, r, h⟩ hd
theorem pe_bltn {x : Str} {v : V} {u : Value} {pos : Pos} (hg : Gl X x) (hm : X.mg x = none) (hv : bootBuiltins x = some u) (r : RelV v u) (hn : x ≠ "__name__" := by decide) (hd : (x == ("__debug__" : Str)) = false := by decide) : PE X (.Name x pos) (tC v) :=
  fun _ _ _ H _ I h => ld_blt I hg hm hv ⟨v, H, I, r, h⟩ hn hd

/-! ### arithmetic -/
/-- two ints -/
def t2I (ta tb : TE) (k : Int → Int → Hp → Prop) : St → Hp → Prop := fun σ H => ta σ H fun x H1 => tb σ H1 fun y H2 => ∃ i j, x = .int i ∧ y = .int j ∧ k i j H2
def tAdd (ta tb : TE) : TE := fun σ H Q => t2I ta tb (fun i j H2 => Q (.int (i + j)) H2) σ H
def tSub (ta tb : TE) : TE := fun σ H Q => t2I ta tb (fun i j H2 => Q (.int (i - j)) H2) σ H
/-- the left factor below 2^64 -/
def tMul (ta tb : TE) : TE := fun σ H Q => t2I ta tb (fun i j H2 => (-(2 ^ 64) < i ∧ i < 2 ^ 64) ∧ Q (.int (i * j)) H2) σ H
variable {a b : Expr} {ta tb : TE} {pos : Pos}
/-! ### comparisons -/
def PC (X : Cx) (op : CmpOp) (a b : Expr) (t : TE) : Prop :=
  ∀ (pins : List (Addr × Obj)) (s : Shared) (σ : St) (H : Hp) (Q : VK), Inv X pins σ H s → t σ H Q →
    wpAny (model X.prog X.w) X.A (eval a X.env) (fun v s₁ => wpAny (model X.prog X.w) X.A (eval b X.env) (fun u s₂ => wpAny (model X.prog X.w) X.A (compareOp op v u) (EP X pins σ Q) X.xe s₂) X.xe s₁) X.xe s
theorem nobehind (b : Expr) {op : CmpOp} (h : op ≠ .In) (h2 : op ≠ .NotIn) : behindInMarks op b = false := by
  have e1 : (op == CmpOp.In) = false := by cases op <;> first | rfl | exact absurd rfl h
  have e2 : (op == CmpOp.NotIn) = false := by cases op <;> first | rfl | exact absurd rfl h2
  cases b <;> simp [behindInMarks, e1, e2]
def tCmp (p : Int → Int → Bool) (ta tb : TE) : TE := fun σ H Q => t2I ta tb (fun i j H2 => Q (.bl (p i j)) H2) σ H
abbrev tLt : TE → TE → TE := tCmp fun i j => decide (i < j)
abbrev tLe : TE → TE → TE := tCmp fun i j => decide (i ≤ j)
abbrev tGt : TE → TE → TE := tCmp fun i j => decide (j < i)
abbrev tGe : TE → TE → TE := tCmp fun i j => decide (j ≤ i)
abbrev tEqI : TE → TE → TE := tCmp fun i j => decide (i = j)
abbrev tNeI : TE → TE → TE := tCmp fun i j => !decide (i = j)
/-- is None -/
def tIsN (ta : TE) : TE := fun σ H Q => ta σ H fun x H1 => Q (.bl (decide (x = .non))) H1
def tNotN (ta : TE) : TE := fun σ H Q => ta σ H fun x H1 => Q (.bl (!decide (x = .non))) H1
/-- a comparison as a value, as a test -/
def tB (t : TE) : TT := fun σ H Q => t σ H fun x H1 => ∃ c, x = .bl c ∧ Q c H1
theorem pt_cmp {op : CmpOp} {t : TE} (h : PC X op a b t) (h1 : behindInMarks op b = false := by first | exact nobehind _ (by decide) (by decide) | rfl) : PT X (.Compare a [op] [b] pos) (tB t) := by
  intro pins s σ H Q I hw
  refine wpAny_isTrue_Compare1 (thn (h pins s σ H _ I hw) fun v s1 h1 => thn h1 fun u s2 h2 => thn h2 fun c s3 hz_ => ?_) h1
  obtain ⟨x, H1, I1, r1, q1⟩ := hz_
  obtain ⟨d, rfl, q⟩ := q1
  cases r1
  exact wpAny_truthy_bool ⟨H1, I1, q⟩
/-- an expression whose value is a bool, as a test -/
theorem pt_val {e : Expr} {t : TE} (h : PE X e t) (he : ∀ whole, isTrue e X.env whole = (do let v ← whole; standAt e.pos; holding [v] (truthy v)) := by intro _; rfl) : PT X e (tB t) := by
  intro pins s σ H Q I hw
  refine isTrue_plain (thn (h pins s σ H _ I hw) fun v s1 hz_ => ?_) (he _)
  obtain ⟨x, H1, I1, r1, q1⟩ := hz_
  obtain ⟨d, rfl, q⟩ := q1
  cases r1
  exact wpAny_truthy_bool ⟨H1, I1, q⟩

/-! ### and, or, not -/
variable {tA tB' : TT} {rest : List Expr}
def tAnd (t u : TT) : TT := fun σ H Q => t σ H fun c H1 => if c = true then u σ H1 Q else Q false H1
def tOr (t u : TT) : TT := fun σ H Q => t σ H fun c H1 => if c = true then Q true H1 else u σ H1 Q
def tNot (t : TT) : TT := fun σ H Q => t σ H fun c H1 => Q (!c) H1
theorem pw_and1 (ha : PT X a tA) : PW X (.BoolOp .And [a] pos) tA := by
  intro wh pins s σ H Q I h
  refine isTrue_and (thn (ha pins s σ H Q I h) fun c s1 e => ?_)
  cases c with
  | true => exact isTrue_and_nil e
  | false => exact e
theorem pw_or1 (ha : PT X a tA) : PW X (.BoolOp .Or [a] pos) tA := by
  intro wh pins s σ H Q I h
  refine isTrue_or (thn (ha pins s σ H Q I h) fun c s1 e => ?_)
  cases c with
  | false => exact isTrue_or_nil e
  | true => exact e
theorem pw_and (ha : PT X a tA) (hb : PW X (.BoolOp .And (b :: rest) pos) tB') : PW X (.BoolOp .And (a :: b :: rest) pos) (tAnd tA tB') := by
  intro wh pins s σ H Q I h
  refine isTrue_and (thn (ha pins s σ H _ I h) fun c s1 hz_ => ?_)
  obtain ⟨H1, I1, q1⟩ := hz_
  cases c with
  | true => exact hb wh pins s1 σ H1 Q I1 q1
  | false => exact ⟨H1, I1, q1⟩
theorem pw_or (ha : PT X a tA) (hb : PW X (.BoolOp .Or (b :: rest) pos) tB') : PW X (.BoolOp .Or (a :: b :: rest) pos) (tOr tA tB') := by
  intro wh pins s σ H Q I h
  refine isTrue_or (thn (ha pins s σ H _ I h) fun c s1 hz_ => ?_)
  obtain ⟨H1, I1, q1⟩ := hz_
  cases c with
  | true => exact ⟨H1, I1, q1⟩
  | false => exact hb wh pins s1 σ H1 Q I1 q1
theorem pt_not (ha : PT X a tA) : PT X (.UnaryOp .Not a pos) (tNot tA) := by
  intro pins s σ H Q I h
  exact isTrue_not (ha pins s σ H (fun c H1 => Q (!c) H1) I h)
/-- .. as values (bools) -/
def tAndV (ta tb : TE) : TE := fun σ H Q => ta σ H fun x H1 => ∃ c, x = .bl c ∧ if c = true then tb σ H1 Q else Q (.bl false) H1
def tOrV (ta tb : TE) : TE := fun σ H Q => ta σ H fun x H1 => ∃ c, x = .bl c ∧ if c = true then Q (.bl true) H1 else tb σ H1 Q
def tNotV (ta : TE) : TE := fun σ H Q => ta σ H fun x H1 => ∃ c, x = .bl c ∧ Q (.bl (!c)) H1
theorem pe_one {op} {t : TE} (h : PE X a t) : PE X (.BoolOp op [a] pos) t := fun pins s σ H Q I hw => BoolOp_one (h pins s σ H Q I hw)
theorem pe_and (ha : PE X a ta) (hb : PE X (.BoolOp .And (b :: rest) pos) tb) : PE X (.BoolOp .And (a :: b :: rest) pos) (tAndV ta tb) := by
  intro pins s σ H Q I h
  refine BoolOp_and (thn (ha pins s σ H _ I h) fun v s1 hz_ => ?_)
  obtain ⟨x, H1, I1, r1, q1⟩ := hz_
  obtain ⟨c, rfl, q1⟩ := q1
  cases r1
  refine wpAny_truthy_bool ?_
  cases c with
  | true => exact hb pins s1 σ H1 Q I1 q1
  | false => exact ⟨.bl false, H1, I1, rfl, q1⟩
theorem pe_or (ha : PE X a ta) (hb : PE X (.BoolOp .Or (b :: rest) pos) tb) : PE X (.BoolOp .Or (a :: b :: rest) pos) (tOrV ta tb) := by
  intro pins s σ H Q I h
  refine BoolOp_or (thn (ha pins s σ H _ I h) fun v s1 hz_ => ?_)
  obtain ⟨x, H1, I1, r1, q1⟩ := hz_
  obtain ⟨c, rfl, q1⟩ := q1
  cases r1
  refine wpAny_truthy_bool ?_
  cases c with
  | false => exact hb pins s1 σ H1 Q I1 q1
  | true => exact ⟨.bl true, H1, I1, rfl, q1⟩
theorem pe_not (ha : PE X a ta) : PE X (.UnaryOp .Not a pos) (tNotV ta) := by
  intro pins s σ H Q I h
  refine UnaryOp_ (thn (ha pins s σ H _ I h) fun v s1 hz_ => ?_)
  obtain ⟨x, H1, I1, r1, q1⟩ := hz_
  obtain ⟨c, rfl, q1⟩ := q1
  cases r1
  exact not_of (wpAny_truthy_bool ⟨.bl (!c), H1, I1, rfl, q1⟩)
/-- a if t else b -/
def tIf (t : TT) (ta tb : TE) : TE := fun σ H Q => t σ H fun c H1 => if c = true then ta σ H1 Q else tb σ H1 Q
theorem pe_ifExp {c : Expr} (hc : PT X c tA) (ha : PE X a ta) (hb : PE X b tb) : PE X (.IfExp c a b pos) (tIf tA ta tb) := by
  intro pins s σ H Q I h
  refine wpAny_IfExp (thn (hc pins s σ H _ I h) fun d s1 hz_ => ?_)
  obtain ⟨H1, I1, q1⟩ := hz_
  cases d with
  | true => exact ha pins s1 σ H1 Q I1 q1
  | false => exact hb pins s1 σ H1 Q I1 q1
end
end L2

namespace L2
open PySem PySem.Spec PyProof.Rows

/-! ### a list, a tuple that is read: tracked, frozen, or an object of the module -/
def SqL (K : PySem.W.Frag) (H : Hp) (a : Addr) (xs : List V) : Prop :=
  Rd H a (.lst xs) ∨
    ∃ (o : Obj) (its : Array Value) (n : Nat), K.lookup a = some o ∧ o.cls = .type "list" ∧ o.dict = none ∧ o.data = .seq its n ∧ its.size ≤ sizeLine ∧ Vals xs its.toList
def SqT (K : PySem.W.Frag) (H : Hp) (a : Addr) (xs : List V) : Prop :=
  Rd H a (.tup xs) ∨
    ∃ (o : Obj) (its : Array Value) (n : Nat), K.lookup a = some o ∧ o.cls = .type "tuple" ∧ o.data = .seq its n ∧ its.size ≤ sizeLine ∧ Vals xs its.toList
def absV : Value → Option V
  | .none => some .non
  | .bool b => some (.bl b)
  | .int i _ => some (.int i)
  | .str x _ => some (.str x)
  | .bytes b _ => some (.byt b)
  | .float b _ => some (.flt b)
  | .ref a => some (.ref a)
  | .type n => some (.ty n)
  | _ => none
theorem RelV.abs {x : V} {u : Value} (r : RelV x u) : absV u = some x := by
  cases x with
  | non => cases r; rfl
  | bl _ => cases r; rfl
  | int _ => obtain ⟨t, rfl⟩ := r; rfl
  | str _ => obtain ⟨t, rfl⟩ := r; rfl
  | byt _ => obtain ⟨t, rfl⟩ := r; rfl
  | flt _ => obtain ⟨t, rfl⟩ := r; rfl
  | ref _ => cases r; rfl
  | ty _ => cases r; rfl
theorem RelV.inj {x y : V} {u : Value} (r : RelV x u) (q : RelV y u) : x = y := Option.some.inj (r.abs.symm.trans q.abs)
theorem Vals.inj : ∀ {xs ys : List V} {us : List Value}, Vals xs us → Vals ys us → xs = ys
  | _, _, _, .nil, .nil => rfl
  | _, _, _, .cons r t, .cons r' t' => by rw [r.inj r', Vals.inj t t']
section
variable {X : Cx} {pins : List (Addr × Obj)} {σ : St} {H : Hp} {s : Shared} {a : Addr} {xs ys : List V}
theorem SqL.of {K : PySem.W.Frag} (h : H a = some (.lst xs)) : SqL K H a xs := .inl (.inl h)
theorem SqT.of {K : PySem.W.Frag} (h : H a = some (.tup xs)) : SqT K H a xs := .inl (.inl h)
theorem Inv.list (I : Inv X pins σ H s) (h : SqL X.K H a xs) : ∃ its : List Value, Vals xs its ∧ PlainL s.heap a its.toArray ∧ xs.length ≤ sizeLine := by
  rcases h with h | ⟨o, its, n, hk, hc, hd, hs, hz, r⟩
  · obtain ⟨z, its, n, r, e⟩ := h.ok I.hok
    exact ⟨its, r, ⟨_, n, e, rfl, rfl, rfl⟩, z⟩
  · refine ⟨its.toList, r, ⟨o, n, I.kIn a o hk, hc, hd, by simpa using hs⟩, ?_⟩
    have e := r.length
    simp only [Array.length_toList] at e
    omega
theorem Inv.tuple (I : Inv X pins σ H s) (h : SqT X.K H a xs) : ∃ its : List Value, Vals xs its ∧ IsTup s.heap a its.toArray ∧ xs.length ≤ sizeLine := by
  rcases h with h | ⟨o, its, n, hk, hc, hs, hz, r⟩
  · obtain ⟨z, its, r, p⟩ := h.ok I.hok
    exact ⟨its, r, p, z⟩
  · refine ⟨its.toList, r, ⟨o, I.kIn a o hk, hc, n, by simpa using hs⟩, ?_⟩
    have e := r.length
    simp only [Array.length_toList] at e
    omega
theorem Inv.list_inj (I : Inv X pins σ H s) (h : SqL X.K H a xs) (h' : SqL X.K H a ys) : xs = ys := by
  obtain ⟨its, r, ⟨o, n, e, _, _, d⟩, _⟩ := I.list h
  obtain ⟨its', r', ⟨o', n', e', _, _, d'⟩, _⟩ := I.list h'
  rw [e] at e'; cases e'
  rw [d] at d'
  injection d' with d1 _
  have : its = its' := by simpa using congrArg Array.toList d1
  subst this
  exact r.inj r'
theorem Inv.tuple_inj (I : Inv X pins σ H s) (h : SqT X.K H a xs) (h' : SqT X.K H a ys) : xs = ys := by
  obtain ⟨its, r, ⟨o, e, _, n, d⟩, _⟩ := I.tuple h
  obtain ⟨its', r', ⟨o', e', _, n', d'⟩, _⟩ := I.tuple h'
  rw [e] at e'; cases e'
  rw [d] at d'
  injection d' with d1 _
  have : its = its' := by simpa using congrArg Array.toList d1
  subst this
  exact r.inj r'
end

/-! ### another wish about exceptions -/
abbrev Cx.wish (X : Cx) (E : Value → Shared → Prop) : Cx := { X with xe := E }
/-- no exception leaves -/
abbrev Cx.nox (X : Cx) : Cx := X.wish fun _ _ => False
theorem Cx.Ok.wish {X : Cx} (ok : X.Ok) (E : Value → Shared → Prop) : (X.wish E).Ok :=
  ⟨ok.mod, ok.kind, ok.glob, ok.blt, ok.above, ok.inj, ok.has, ok.cab, ok.hd, ok.frames, ok.stk, ok.exf, ok.bs, ok.bsz, ok.noex, ok.exfs, ok.funs, ok.frf⟩
theorem Cx.Ok.unwish {X : Cx} {E : Value → Shared → Prop} (ok : (X.wish E).Ok) : X.Ok :=
  ⟨ok.mod, ok.kind, ok.glob, ok.blt, ok.above, ok.inj, ok.has, ok.cab, ok.hd, ok.frames, ok.stk, ok.exf, ok.bs, ok.bsz, ok.noex, ok.exfs, ok.funs, ok.frf⟩
section
variable {X : Cx} {pins : List (Addr × Obj)} {σ : St} {H : Hp} {s : Shared} {E : Value → Shared → Prop}
theorem Inv.wish (I : Inv X pins σ H s) (E : Value → Shared → Prop) : Inv (X.wish E) pins σ H s := ⟨I.ok.wish E, I.os, I.bare, I.base, I.loc, I.cell, I.free, I.freeC, I.pin, I.hok, I.len⟩
theorem Inv.unwish (I : Inv (X.wish E) pins σ H s) : Inv X pins σ H s := ⟨I.ok.unwish, I.os, I.bare, I.base, I.loc, I.cell, I.free, I.freeC, I.pin, I.hok, I.len⟩
theorem SP.unwish {D : Ends} {f : Flow} {s' : Shared} (h : SP (X.wish E) pins D f s') : SP X pins D f s' := by
  cases f with
  | next => obtain ⟨σ', H', I, q⟩ := h; exact ⟨σ', H', I.unwish, q⟩
  | brk => obtain ⟨σ', H', I, q⟩ := h; exact ⟨σ', H', I.unwish, q⟩
  | cont => obtain ⟨σ', H', I, q⟩ := h; exact ⟨σ', H', I.unwish, q⟩
  | ret u => obtain ⟨v, σ', H', I, r, q⟩ := h; exact ⟨v, σ', H', I.unwish, r, q⟩
theorem PSs.nox {st : List Stmt} {t : TS} (h : PSs X.nox st t) : PSs X st t := fun pins s σ H D I hw =>
  wpAny_mono (h pins s σ H D (I.wish _) hw) (fun _ _ q => q.unwish) fun _ _ z => False.elim z
end

/-! ### blocks and small statements -/
section
variable {X : Cx} {st : Stmt} {rest : List Stmt} {t u : TS} {e : Expr} {te : TE} {pos : Pos}
def tNext : TS := fun D σ H => D.nx σ H
def tSeq (t u : TS) : TS := fun D σ H => t { D with nx := u D } σ H
theorem pss_nil : PSs X [] tNext := fun _ _ σ H _ I h => wpAny_execs_nil ⟨σ, H, I, h⟩
theorem pss_cons (h1 : PS X st t) (h2 : PSs X rest u) : PSs X (st :: rest) (tSeq t u) := by
  intro pins s σ H D I h
  refine wpAny_execs_cons (thn (h1 pins s σ H { D with nx := u D } I h) fun f s1 q => ?_)
  cases f with
  | next =>
    obtain ⟨σ', H', I', q⟩ := q
    exact h2 pins s1 σ' H' D I' q
  | ret v => exact q
  | brk => exact q
  | cont => exact q
theorem pss_one (h1 : PS X st t) : PSs X [st] t := by
  intro pins s σ H D I h
  refine wpAny_execs_cons (thn (h1 pins s σ H D I h) fun f s1 q => ?_)
  cases f with
  | next => exact wpAny_execs_nil q
  | ret v => exact q
  | brk => exact q
  | cont => exact q
def tBreak : TS := fun D σ H => D.bk σ H
def tCont : TS := fun D σ H => D.ct σ H
/-- in a def's body nothing is shown -/
theorem Inv.quiet {pins : List (Addr × Obj)} {σ : St} {H : Hp} {s : Shared} (I : Inv X pins σ H s) : interactive X.env = false := by simp [interactive, I.ok.kind]
/-- an expression whose value is dropped -/
def tDrop (te : TE) : TS := fun D σ H => te σ H fun _ H1 => D.nx σ H1
theorem ps_expr (he : PE X e te) (hs : swapsWith e none pos.line X.env = pure false := by rfl) : PS X (.Expr e pos) (tDrop te) := by
  intro pins s σ H D I h
  refine wpAny_Expr_any (thn (he pins s σ H _ I h) fun v s1 hz_ => ?_) I.quiet hs
  obtain ⟨x, H1, I1, r1, q1⟩ := hz_
  exact ⟨σ, H1, I1, q1⟩
def tRet (te : TE) : TS := fun D σ H => te σ H D.rt
theorem ps_ret (he : PE X e te) : PS X (.Return (some e) pos) (tRet te) := by
  intro pins s σ H D I h
  refine wpAny_Return_some (thn (he pins s σ H _ I h) fun v s1 hz_ => ?_)
  obtain ⟨x, H1, I1, r1, q1⟩ := hz_
  exact ⟨x, σ, H1, I1, r1, q1⟩
def tRetN : TS := fun D _ H => D.rt .non H
def tIfS (c : TT) (t u : TS) : TS := fun D σ H => c σ H fun b H1 => if b = true then t D σ H1 else u D σ H1
theorem ps_if {c : Expr} {a b : List Stmt} {tc : TT} (hc : PT X c tc) (ha : PSs X a t) (hb : PSs X b u) : PS X (.If c a b pos) (tIfS tc t u) := by
  intro pins s σ H D I h
  refine wpAny_If (thn (hc pins s σ H _ I h) fun d s1 hz_ => ?_)
  obtain ⟨H1, I1, q1⟩ := hz_
  cases d with
  | true => exact ha pins s1 σ H1 D I1 q1
  | false => exact hb pins s1 σ H1 D I1 q1
/-- code that the proof never comes to -/
def tNever : TS := fun _ _ _ => False
theorem ps_never : PS X st tNever := fun _ _ _ _ _ _ h => h.elim
end

/-! ### targets -/
abbrev TG := V → St → Hp → (St → Hp → Prop) → Prop
abbrev TGs := List V → St → Hp → (St → Hp → Prop) → Prop
def PG (X : Cx) (target : Expr) (t : TG) : Prop :=
  ∀ (pins : List (Addr × Obj)) (s : Shared) (σ : St) (H : Hp) (v : V) (u : Value) (Q : St → Hp → Prop), Inv X pins σ H s → RelV v u → t v σ H Q →
    wpAny (model X.prog X.w) X.A (assign target X.env u) (fun _ s' => ∃ σ' H', Inv X pins σ' H' s' ∧ Q σ' H') X.xe s
/-- several targets, one after another -/
def PGs (X : Cx) (ts : List Expr) (t : TGs) : Prop :=
  ∀ (pins : List (Addr × Obj)) (s : Shared) (σ : St) (H : Hp) (vs : List V) (us : List Value) (Q : St → Hp → Prop), Inv X pins σ H s → Vals vs us → t vs σ H Q →
    wpAny (model X.prog X.w) X.A (assignInOrder ((assignEach ts X.env).map (·.2)) us) (fun _ s' => ∃ σ' H', Inv X pins σ' H' s' ∧ Q σ' H') X.xe s
/-- o[i] = v, by values -/
abbrev TSet := V → V → V → Hp → (Hp → Prop) → Prop
def PSet (X : Cx) (t : TSet) : Prop :=
  ∀ (pins : List (Addr × Obj)) (s : Shared) (σ : St) (H : Hp) (o i v : V) (ov iv u : Value) (Q : Hp → Prop), Inv X pins σ H s → RelV o ov → RelV i iv → RelV v u → t o i v H Q →
    wpAny (model X.prog X.w) X.A (setItem ov iv u) (fun _ s' => ∃ H', Inv X pins σ H' s' ∧ Q H') X.xe s
/-- a op= b, by values -/
abbrev TIp := V → V → Hp → VK → Prop
def PIp (X : Cx) (op : Operator) (t : TIp) : Prop :=
  ∀ (pins : List (Addr × Obj)) (s : Shared) (σ : St) (H : Hp) (x y : V) (v u : Value) (Q : VK), Inv X pins σ H s → RelV x v → RelV y u → t x y H Q →
    wpAny (model X.prog X.w) X.A (inplaceOp op v u) (EP X pins σ Q) X.xe s
section
variable {X : Cx} {pos : Pos}
def gName (i : Nat) : TG := fun v σ H Q => Q (σ.set i (some v)) H
theorem pg_name {i : Nat} {x : Str} (hN : X.N.Nodup) (hi : X.N[i]? = some x) (hx : Loc X.env.scope x) (hf : X.fn x = true ∨ X.env.scope.names.lookup x = some .local := by first | exact .inl rfl | exact .inr rfl | assumption) : PG X (.Name x pos) (gName i) := by
  intro pins s σ H v u Q I r h
  exact wpAny_assign_Name (store_ok I hN hi hx r (fun s' I' => ⟨_, H, I', h⟩) hf)
def gNil : TGs := fun vs σ H Q => vs = [] ∧ Q σ H
def gCons (t : TG) (u : TGs) : TGs := fun vs σ H Q => ∃ v r, vs = v :: r ∧ t v σ H fun σ' H' => u r σ' H' Q
theorem pgs_nil : PGs X [] gNil := by
  intro pins s σ H vs us Q I r h
  obtain ⟨e, h⟩ := h
  subst e
  cases r
  exact assignInOrder_nil ⟨σ, H, I, h⟩
theorem pgs_cons {e : Expr} {es : List Expr} {t : TG} {u : TGs} (h1 : PG X e t) (h2 : PGs X es u)
    (hs : (assignEach (e :: es) X.env).map (·.2) = assign e X.env :: (assignEach es X.env).map (·.2) := by rfl) : PGs X (e :: es) (gCons t u) := by
  intro pins s σ H vs us Q I r h
  obtain ⟨v, vr, e1, h⟩ := h
  subst e1
  cases r with
  | cons r rr =>
    rw [hs]
    refine assignInOrder_cons (thn (h1 pins s σ H _ _ _ I r h) fun _ s1 hz_ => ?_)
    obtain ⟨σ1, H1, I1, q1⟩ := hz_
    exact h2 pins s1 σ1 H1 _ _ Q I1 rr q1
/-- (a, b, ..) = a tuple of that length -/
def gTup (K : PySem.W.Frag) (n : Nat) (t : TGs) : TG := fun v σ H Q => ∃ a xs, v = .ref a ∧ SqT K H a xs ∧ xs.length = n ∧ t xs σ H Q
theorem pg_tup {es : List Expr} {k : Nat} {t : TGs} {n : Nat} (hc : X.calm = true) (h : PGs X es t)
    (hn : (assignEach es X.env).length = n := by rfl) (hst : (assignEach es X.env).findIdx? (·.1) = none := by rfl) : PG X (.Tuple es k pos) (gTup X.K n t) := by
  intro pins s σ H v u Q I r hw
  obtain ⟨a, xs, e1, hq, hl, hw⟩ := hw
  subst e1
  cases r
  obtain ⟨its, rv, ht, hz⟩ := I.tuple hq
  refine assign_Tuple_tuple (I.ok.hd hc) ht (by simp [hn, ← hl, rv.length]) hst fun h' hx => ?_
  have I1 : Inv X pins σ H { s with heap := h' } := I.kept (t' := s.toks) fun b o e => hx b o (Nat.ne_of_lt (Heap.lt_size e)) e
  exact h pins _ σ H xs _ Q I1 (by simpa using rv) hw
/-- o[i] = .. -/
def gSub (to ti : TE) (t : TSet) : TG := fun v σ H Q => to σ H fun o H1 => ti σ H1 fun i H2 => t o i v H2 fun H3 => Q σ H3
theorem pg_sub {o i : Expr} {to ti : TE} {t : TSet} (ho : PE X o to) (hi : PE X i ti) (hs : PSet X t)
    (ha : ∀ v, assign (.Subscript o i pos) X.env v = (do
      let ov ← holding [v] (eval o X.env)
      let iv ← holding [v, ov] (eval i X.env)
      standAt pos
      holding [v, ov, iv] (setItem ov iv v)
      release [v, ov, iv] []) := by intro _; rfl) : PG X (.Subscript o i pos) (gSub to ti t) := by
  intro pins s σ H v u Q I r h
  rw [ha]
  refine wpAny_bind (wpAny_holding (thn (ho pins s σ H _ I h) fun ov s1 hz_ => ?_))
  obtain ⟨x, H1, I1, r1, q1⟩ := hz_
  refine wpAny_bind (wpAny_holding (thn (hi pins s1 σ H1 _ I1 q1) fun iv s2 hz_ => ?_))
  obtain ⟨y, H2, I2, r2, q2⟩ := hz_
  refine wpAny_bind (wpAny_standAt (wpAny_bind (wpAny_holding (thn (hs pins s2 σ H2 x y v ov iv u _ I2 r1 r2 r q2) fun _ s3 hz_ => ?_))))
  obtain ⟨H3, I3, q3⟩ := hz_
  exact wpAny_release ⟨σ, H3, I3, q3⟩
/-- target = value -/
def tAsg (te : TE) (g : TG) : TS := fun D σ H => te σ H fun x H1 => g x σ H1 D.nx
theorem ps_asg {tg e : Expr} {te : TE} {g : TG} (he : PE X e te) (hg : PG X tg g) (hs : swapsWithSole [tg] e pos.line X.env = pure false := by rfl) (hw : swappedStores [tg] e X.env = pure none := by rfl)
    (h1 : (assignEach [tg] X.env).map (·.2) = [assign tg X.env] := by rfl) : PS X (.Assign [tg] e pos) (tAsg te g) := by
  intro pins s σ H D I h
  refine wpAny_Assign_stores (thn (he pins s σ H _ I h) fun v s1 hz_ => ?_) hs hw
  obtain ⟨x, H1, I1, r1, q1⟩ := hz_
  rw [h1]
  exact thn (hg pins s1 σ H1 x v _ I1 r1 q1) fun _ s2 q => q
/-- name = value -/
theorem ps_set {i : Nat} {x : Str} {e : Expr} {te : TE} {pos' : Pos} (hN : X.N.Nodup) (hi : X.N[i]? = some x) (hx : Loc X.env.scope x) (he : PE X e te) (hs : swapsWith e (some (.Name x pos')) pos.line X.env = pure false := by rfl) (hf : X.fn x = true ∨ X.env.scope.names.lookup x = some .local := by first | exact .inl rfl | exact .inr rfl | assumption) :
    PS X (.Assign [.Name x pos'] e pos) (tAsg te (gName i)) := by
  intro pins s σ H D I h
  refine wpAny_Assign_Name (thn (he pins s σ H _ I h) fun v s1 hz_ => ?_) hs
  obtain ⟨y, H1, I1, r1, q1⟩ := hz_
  exact store_ok I1 hN hi hx r1 (fun s2 I2 => ⟨_, H1, I2, q1⟩) hf
/-- a, b = x, y with plain local names: stored from the right; the pair itself is not tracked (the opening rows as in PyProof/Rows/TupAssign.lean:23) -/
def tPar (i j : Nat) (ta : TA) : TS := fun D σ H => ta σ H fun vs H1 => ∃ v w, vs = [v, w] ∧ D.nx ((σ.set i (some v)).set j (some w)) H1
theorem ps_par {i j : Nat} {x y : Str} {a b : Expr} {ta : TA} {px py pt : Pos} {kt k2 pt2} (hc : X.calm = true) (hN : X.N.Nodup) (hi : X.N[i]? = some x) (hj : X.N[j]? = some y) (hij : i ≠ j)
    (hx : X.env.scope.names.lookup x = some .local) (hy : X.env.scope.names.lookup y = some .local) (ha : PA X [a, b] ta)
    (hw : swappedStores [.Tuple [.Name x px, .Name y py] kt pt] (.Tuple [a, b] k2 pt2) X.env = pure (some [x, y]))
    (hs : swapsWithSole [.Tuple [.Name x px, .Name y py] kt pt] (.Tuple [a, b] k2 pt2) pos.line X.env = pure false := by rfl) :
    PS X (.Assign [.Tuple [.Name x px, .Name y py] kt pt] (.Tuple [a, b] k2 pt2) pos) (tPar i j ta) := by
  intro pins s σ H D I h
  rw [exec_Assign_arm]
  refine wpAny_bind (wpAny_standAt ?_)
  rw [hs]
  refine wpAny_bind (wpAny_pure ?_)
  rw [if_neg (by decide)]
  refine wpAny_bind (Tuple_ (thn (ha _ pins s σ H _ I h) fun us s1 hz_ => ?_))
  obtain ⟨vs, H1, I1, r1, q1⟩ := hz_
  obtain ⟨v, w, e1, q1⟩ := q1
  subst e1
  obtain ⟨u1, u2, rfl, rv, rw'⟩ : ∃ u1 u2, us = [u1, u2] ∧ RelV v u1 ∧ RelV w u2 := by
    cases r1 with
    | cons p q =>
      cases q with
      | cons p' q' =>
        cases q'
        exact ⟨_, _, rfl, p, p'⟩
  refine wpAny_newObj_type ?_ (by show 2 ≤ sizeLine; decide)
  have I2 : Inv X pins σ H1 { s1 with heap := s1.heap.push { cls := .type "tuple", data := .seq [u1, u2].toArray } } := I1.kept (t' := s1.toks) fun b o e => Heap.get?_push_of_some _ e
  rw [hw]
  refine wpAny_bind (wpAny_pure ?_)
  show wpAny (model X.prog X.w) X.A (do rule "assign.swapped-stores"; let items ← unpackItems (.ref s1.heap.objs.size) 2 none; assignInOrder [fun v => bindName X.env y v, fun v => bindName X.env x v] items.reverse; pure Flow.next) _ _ _
  refine wpAny_bind (wpAny_rule (wpAny_bind (unpackItems_tuple (items := #[u1, u2]) (I.ok.hd hc) (IsTup.new s1.heap _) fun h' hx' => ?_)))
  have I3 := I2.kept (h' := h') (t' := s1.toks) fun b o e => hx' b o (Nat.ne_of_lt (Heap.lt_size e)) e
  show wpAny _ _ (assignInOrder [fun v => bindName X.env y v, fun v => bindName X.env x v] [u2, u1] >>= fun _ => pure Flow.next) _ _ _
  refine wpAny_bind (assignInOrder_cons (wpAny_bindName (store_ok I3 hN hj (.inl hy) rw' (fun s2 I4 => ?_) (.inr hy))))
  refine assignInOrder_cons (wpAny_bindName (store_ok I4 hN hi (.inl hx) rv (fun s3 I5 => assignInOrder_nil (wpAny_pure ?_)) (.inr hx)))
  rw [List.set_comm _ _ (Ne.symm hij)] at I5
  exact ⟨_, H1, I5, q1⟩
/-- name op= e -/
def tAug (i : Nat) (te : TE) (ti : TIp) : TS := fun D σ H => ∃ x, σ[i]? = some (some x) ∧ te σ H fun y H1 => ti x y H1 fun z H2 => D.nx (σ.set i (some z)) H2
/-- o[i] op= e -/
def tAugS (to ti te : TE) (tget : V → V → Hp → VK → Prop) (tip : TIp) (tset : TSet) : TS := fun D σ H => to σ H fun o H1 => ti σ H1 fun i H2 => tget o i H2 fun x H3 => te σ H3 fun y H4 => tip x y H4 fun z H5 => tset o i z H5 fun H6 => D.nx σ H6
/-- o[i], by values -/
def PGet (X : Cx) (t : V → V → Hp → VK → Prop) : Prop :=
  ∀ (pins : List (Addr × Obj)) (s : Shared) (σ : St) (H : Hp) (o i : V) (ov iv : Value) (Q : VK), Inv X pins σ H s → RelV o ov → RelV i iv → t o i H Q →
    wpAny (model X.prog X.w) X.A (getItem ov iv) (EP X pins σ Q) X.xe s
/-- ints -/
def ipI (f : Int → Int → Int) : TIp := fun x y H Q => ∃ i j, x = .int i ∧ y = .int j ∧ Q (.int (f i j)) H
end

/-! ### while -/
section
variable {X : Cx} {pos : Pos}
/-- the invariant W with its measure -/
def tWhile (c : TT) (tb : TS) : TS := fun D σ H => ∃ W : Nat → St → Hp → Prop, (∃ m, W m σ H) ∧ ∀ m σ H, W m σ H →
  c σ H fun b H1 => if b = true then ∃ N : St → Hp → Prop, (∀ σ' H', N σ' H' → ∃ m', m' < m ∧ W m' σ' H') ∧ tb { D with nx := N, ct := N, bk := D.nx } σ H1 else D.nx σ H1
theorem ps_while {c : Expr} {body : List Stmt} {tc : TT} {tb : TS} (hp : PassesOwn (model X.prog X.w) X.A X.env X.xe) (hc : PT X c tc) (hb : PSs X body tb) : PS X (.While c body [] pos) (tWhile tc tb) := by
  intro pins s σ H D I h
  obtain ⟨W, ⟨m0, w0⟩, turn⟩ := h
  refine wpAny_While (codeAny_whileLoop (fun n s' => ∃ σ' H', Inv X pins σ' H' s' ∧ W n σ' H') ?_ m0 ⟨σ, H, I, w0⟩)
  rintro n s1 ⟨σ1, H1, I1, w1⟩
  refine wpAny_passesOwn hp (thn (hc pins s1 σ1 H1 _ I1 (turn n σ1 H1 w1)) fun b s2 hz_ => ?_)
  obtain ⟨H2, I2, q2⟩ := hz_
  cases b with
  | true =>
    obtain ⟨N, hN, q2⟩ := q2
    rw [if_pos rfl]
    refine wpAny_passesOwn hp (thn (hb pins s2 σ1 H2 _ I2 q2) fun f s3 q3 => ?_)
    cases f with
    | next =>
      obtain ⟨σ3, H3, I3, n3⟩ := q3
      obtain ⟨m', hm, w3⟩ := hN σ3 H3 n3
      exact ⟨m', hm, σ3, H3, I3, w3⟩
    | cont =>
      obtain ⟨σ3, H3, I3, n3⟩ := q3
      obtain ⟨m', hm, w3⟩ := hN σ3 H3 n3
      exact ⟨m', hm, σ3, H3, I3, w3⟩
    | brk => exact q3
    | ret v => exact q3
  | false =>
    rw [if_neg Bool.false_ne_true]
    exact wpAny_execs_nil ⟨σ1, H2, I2, q2⟩
end

/-! ### what a loop or a comprehension walks -/
/-- at turn i: it yields x (the heap may grow), or it stops -/
structure It where
  go : Nat → Hp → Prop
  yld : Nat → Hp → V → Hp → Prop
  stop : Nat → Hp → Prop
/-- the iterator's own objects may turn: they are not the frame's, not pinned, younger than the entry (or a comprehension's own) -/
def FpOk (X : Cx) (pins : List (Addr × Obj)) (H : Hp) (b : Addr) : Prop :=
  H b = none ∧ b ≠ X.env.locals ∧ b ∉ X.fs ∧ (b ∈ X.ex ∨ X.s₀.heap.objs.size ≤ b) ∧ (∀ x c, X.env.cells.lookup x = some c → c ≠ b) ∧ ∀ p ∈ X.pn ++ pins, p.1 ≠ b
theorem Inv.fpOk {X : Cx} {pins : List (Addr × Obj)} {σ : St} {H H' : Hp} {s : Shared} {b : Addr} (I : Inv X pins σ H s) (hb : s.heap.objs.size ≤ b) (hn : H' b = none) : FpOk X pins H' b := by
  refine ⟨hn, Nat.ne_of_gt (Nat.lt_of_lt_of_le I.lt hb), I.nofs hb, .inr (Nat.le_trans I.sz hb), fun x c e z => ?_, fun p hp z => ?_⟩
  · obtain ⟨v, q⟩ := I.cell x c e
    exact absurd (Nat.lt_of_lt_of_le q.lt (by rw [z]; exact hb)) (Nat.lt_irrefl _)
  · exact absurd (Nat.lt_of_lt_of_le (Heap.lt_size (I.pin p hp).1) (by rw [z]; exact hb)) (Nat.lt_irrefl _)
structure Turn (P : Program) (w : World) (K : PySem.W.Frag) (tg : Expr) (J : It) (fp : List Addr) (it : Addr) (tn : Nat → Heap → Prop) : Prop where
  mem : it ∈ fp
  obj : ∀ i h, tn i h → ∀ b ∈ fp, ∃ o, h.get? b = some o ∧ ∀ v, o.data ≠ .cell v
  keep : ∀ i h h', tn i h → (∀ b ∈ fp, ∀ o, h.get? b = some o → h'.get? b = some o) → tn i h'
  item : ∀ (X : Cx), X.prog = P → X.w = w → X.K = K → X.calm = true → ∀ (i : Nat) (pins : List (Addr × Obj)) (s : Shared) (σ : St) (H : Hp) (E : Value → Shared → Prop), Inv X pins σ H s → (∀ b ∈ fp, FpOk X pins H b) → tn i s.heap → J.go i H →
    wpAny (model P w) X.A (pyNext (.ref it)) (fun r s1 => ∃ u, r = some u ∧
      wpAny (model P w) X.A (letOwnedTupleGo tg (.ref it) u) (fun _ s2 => ∃ x H', Inv X pins σ H' s2 ∧ RelV x u ∧ J.yld i H x H' ∧ tn (i + 1) s2.heap ∧ ∀ b ∈ fp, H' b = none) E s1) E s
  done : ∀ (X : Cx), X.prog = P → X.w = w → X.K = K → X.calm = true → ∀ (i : Nat) (pins : List (Addr × Obj)) (s : Shared) (σ : St) (H : Hp) (E : Value → Shared → Prop), Inv X pins σ H s → (∀ b ∈ fp, FpOk X pins H b) → tn i s.heap → J.stop i H →
    wpAny (model P w) X.A (pyNext (.ref it)) (fun r s1 => r = none ∧ Inv X pins σ H s1) E s
  self : ∀ (A : Around) (i : Nat) (s : Shared) (Q : Value → Shared → Prop) (E : Value → Shared → Prop), tn i s.heap → Q (.ref it) s → wpAny (model P w) A (pyIter (.ref it)) Q E s
abbrev TI := St → Hp → (It → Hp → Prop) → Prop
/-- an iterator has come -/
def PIE (X : Cx) (pins : List (Addr × Obj)) (σ : St) (tg : Expr) (R : It → Hp → Prop) (itv : Value) (s2 : Shared) : Prop :=
  ∃ (it : Addr) (fp : List Addr) (tn : Nat → Heap → Prop) (J : It) (H' : Hp), itv = .ref it ∧ Inv X pins σ H' s2 ∧ Turn X.prog X.w X.K tg J fp it tn ∧ tn 0 s2.heap ∧ (∀ b ∈ fp, FpOk X pins H' b) ∧ R J H'
def PI (X : Cx) (tg iter : Expr) (wi : TI) : Prop :=
  ∀ (pins : List (Addr × Obj)) (s : Shared) (σ : St) (H : Hp) (R : It → Hp → Prop), Inv X pins σ H s → wi σ H R →
    wpAny (model X.prog X.w) X.A (eval iter X.env) (fun v s1 => wpAny (model X.prog X.w) X.A (pyIter v) (PIE X pins σ tg R) X.xe s1) X.xe s

/-- the step ahead of the store is nothing for an iterator that keeps no tuple -/
theorem go_of {M : Model} {A : Around} {E : Value → Shared → Prop} {s : Shared} {tg : Expr} {it : Addr} {u : Value} {o : Obj} {n : String} {vs : Array Value} {Q : Unit → Shared → Prop} (ho : s.heap.get? it = some o) (hc : o.cls = .type n) (hd : o.data = .fields vs)
    (hn : ["enumerate", "zip", "dict_itemiterator", "dict_reverseitemiterator", "odict_iterator", "itertools.zip_longest", "itertools.pairwise"].contains n = false) (hQ : Q () s) : wpAny M A (letOwnedTupleGo tg (.ref it) u) Q E s := by
  unfold letOwnedTupleGo
  cases tg <;> first
    | exact wpAny_pure hQ
    | (cases u <;> first
        | exact wpAny_pure hQ
        | (refine wpAny_bind (wpAny_load ho ?_)
           rw [hc, hd]
           show wpAny M A (if (["enumerate", "zip", "dict_itemiterator", "dict_reverseitemiterator", "odict_iterator", "itertools.zip_longest", "itertools.pairwise"].contains n && vs[0]? == some (rawInt _)) = true then _ else _) Q E s
           rw [if_neg (by intro h; rw [hn, Bool.false_and] at h; cases h)]
           exact wpAny_pure hQ))

/-- the list at a, as it stands at each turn (a loop may append to it) -/
def Itl (K : PySem.W.Frag) (a : Addr) : It :=
  ⟨fun i H => ∃ xs x, SqL K H a xs ∧ xs[i]? = some x, fun i H x H' => H' = H ∧ ∀ xs, SqL K H a xs → xs[i]? = some x, fun i H => ∃ xs, SqL K H a xs ∧ xs.length ≤ i⟩
def Itt (K : PySem.W.Frag) (a : Addr) : It :=
  ⟨fun i H => ∃ xs x, SqT K H a xs ∧ xs[i]? = some x, fun i H x H' => H' = H ∧ ∀ xs, SqT K H a xs → xs[i]? = some x, fun i H => ∃ xs, SqT K H a xs ∧ xs.length ≤ i⟩
/-- lo, lo + 1, .. (n of them) -/
def Itr (lo : Int) (n : Nat) : It := ⟨fun i _ => i < n, fun i H x H' => H' = H ∧ x = .int (lo + i), fun i _ => n ≤ i⟩
theorem turn_list {P : Program} {w : World} {K : PySem.W.Frag} {tg : Expr} (a it : Addr) : Turn P w K tg (Itl K a) [it] it (fun i h => h.IsListIter it a i) where
  mem := by simp
  obj := fun i h st b hb => by
    have e : b = it := by simpa using hb
    subst e
    obtain ⟨o, e, c, d⟩ := st
    exact ⟨o, e, fun v z => by rw [d] at z; cases z⟩
  keep := fun i h h' st k => st.at fun o e => k it (by simp) o e
  item := by
    intro X hP hw hK hc i pins s σ H E I hf st hg
    subst hP hw hK
    obtain ⟨xs, x, hq, hx⟩ := hg
    obtain ⟨its, rv, p, hz⟩ := I.list hq
    obtain ⟨u, hu, ru⟩ := rv.get hx
    obtain ⟨f0, f1, f2, f3, f4, f5⟩ := hf it (by simp)
    refine wpAny_pyNext_list_item st p.isList (x := u) (by simpa using hu) fun h' st' sb => ?_
    have I1 : Inv X pins σ H { s with heap := h' } := I.turned (t' := s.toks) (fun b o hb e => (sb.2 b hb).trans e) f0 f1 f3 f4 f5
    obtain ⟨o, e, c, d⟩ := id st'
    exact ⟨u, rfl, go_of (s := { s with heap := h' }) e c d (by decide) ⟨x, H, I1, ru, ⟨rfl, fun ys hy => by rw [I.list_inj hy hq]; exact hx⟩, st', fun b hb => (hf b hb).1⟩⟩
  done := by
    intro X hP hw hK hc i pins s σ H E I hf st hg
    subst hP hw hK
    obtain ⟨xs, hq, hx⟩ := hg
    obtain ⟨its, rv, p, hz⟩ := I.list hq
    obtain ⟨f0, f1, f2, f3, f4, f5⟩ := hf it (by simp)
    have hl := rv.length
    exact wpAny_pyNext_list_end (I.ok.hd hc) st p.isList (by simp; omega) fun h' eb => ⟨rfl, I.turned (t' := s.toks) (fun b o hb e => eb b o hb e) f0 f1 f3 f4 f5⟩
  self := fun _ _ _ _ _ st h => wpAny_pyIter_listiter st h
theorem turn_tuple {P : Program} {w : World} {K : PySem.W.Frag} {tg : Expr} (a it : Addr) : Turn P w K tg (Itt K a) [it] it (fun i h => h.IsTupleIter it a i) where
  mem := by simp
  obj := fun i h st b hb => by
    have e : b = it := by simpa using hb
    subst e
    obtain ⟨o, e, c, d⟩ := st
    exact ⟨o, e, fun v z => by rw [d] at z; cases z⟩
  keep := fun i h h' st k => st.at fun o e => k it (by simp) o e
  item := by
    intro X hP hw hK hc i pins s σ H E I hf st hg
    subst hP hw hK
    obtain ⟨xs, x, hq, hx⟩ := hg
    obtain ⟨its, rv, p, hz⟩ := I.tuple hq
    obtain ⟨u, hu, ru⟩ := rv.get hx
    obtain ⟨f0, f1, f2, f3, f4, f5⟩ := hf it (by simp)
    refine wpAny_pyNext_tuple_item st (show s.heap.IsTuple a its.toArray from p) (x := u) (by simpa using hu) fun h' st' sb => ?_
    have I1 : Inv X pins σ H { s with heap := h' } := I.turned (t' := s.toks) (fun b o hb e => (sb.2 b hb).trans e) f0 f1 f3 f4 f5
    obtain ⟨o, e, c, d⟩ := id st'
    exact ⟨u, rfl, go_of (s := { s with heap := h' }) e c d (by decide) ⟨x, H, I1, ru, ⟨rfl, fun ys hy => by rw [I.tuple_inj hy hq]; exact hx⟩, st', fun b hb => (hf b hb).1⟩⟩
  done := by
    intro X hP hw hK hc i pins s σ H E I hf st hg
    subst hP hw hK
    obtain ⟨xs, hq, hx⟩ := hg
    obtain ⟨its, rv, p, hz⟩ := I.tuple hq
    obtain ⟨f0, f1, f2, f3, f4, f5⟩ := hf it (by simp)
    have hl := rv.length
    exact wpAny_pyNext_tuple_end (I.ok.hd hc) st (show s.heap.IsTuple a its.toArray from p) (by simp; omega) fun h' eb => ⟨rfl, I.turned (t' := s.toks) (fun b o hb e => eb b o hb e) f0 f1 f3 f4 f5⟩
  self := fun _ _ _ _ _ st h => wpAny_pyIter_tupleiter st h
theorem turn_range {P : Program} {w : World} {K : PySem.W.Frag} {tg : Expr} (it : Addr) (lo : Int) (n : Nat) : Turn P w K tg (Itr lo n) [it] it (fun i h => IsRangeIter h it (lo + (i : Nat) * 1) ((n : Int) - (i : Nat)) 1) where
  mem := by simp
  obj := fun i h st b hb => by
    have e : b = it := by simpa using hb
    subst e
    exact ⟨_, st, fun v z => by
      have z' : Data.fields _ = Data.cell v := z
      cases z'⟩
  keep := fun i h h' st k => k it (by simp) _ st
  item := by
    intro X hP hw hK hc i pins s σ H E I hf st hg
    subst hP hw hK
    obtain ⟨f0, f1, f2, f3, f4, f5⟩ := hf it (by simp)
    have W := Walks.range (prog := X.prog) (w := X.w) (I.ok.hd hc) it lo 1 n
    refine W.item i s _ _ hg st fun v h' tk hv st' kk => ?_
    obtain ⟨t, rfl⟩ := hv
    have I1 : Inv X pins σ H { s with heap := h', toks := tk } := I.turned (fun b o hb e => kk b o (by simpa using hb) e) f0 f1 f3 f4 f5
    refine ⟨_, rfl, go_of (s := { s with heap := h', toks := tk }) (n := "range_iterator") st' rfl rfl (by decide) ⟨.int (lo + i), H, I1, ⟨t, ?_⟩, ⟨rfl, rfl⟩, st', fun b hb => (hf b hb).1⟩⟩
    rw [Int.mul_one]
  done := by
    intro X hP hw hK hc i pins s σ H E I hf st hg
    subst hP hw hK
    obtain ⟨f0, f1, f2, f3, f4, f5⟩ := hf it (by simp)
    exact wpAny_pyNext_range_end (I.ok.hd hc) st (by have : n ≤ i := hg; omega) fun h' eb => ⟨rfl, I.turned (t' := s.toks) (fun b o hb e => eb b o hb e) f0 f1 f3 f4 f5⟩
  self := fun _ _ _ _ _ st h => wpAny_pyIter_rangeiter st h
end L2

namespace L2
open PySem PySem.Spec PyProof.Rows
section
variable {X : Cx} {tg : Expr}
def iList (K : PySem.W.Frag) (tl : TE) : TI := fun σ H R => tl σ H fun x H1 => ∃ a, x = .ref a ∧ (∃ xs, SqL K H1 a xs) ∧ R (Itl K a) H1
def iTup (K : PySem.W.Frag) (tl : TE) : TI := fun σ H R => tl σ H fun x H1 => ∃ a, x = .ref a ∧ (∃ xs, SqT K H1 a xs) ∧ R (Itt K a) H1
theorem pi_list {l : Expr} {tl : TE} (hl : PE X l tl) : PI X tg l (iList X.K tl) := by
  intro pins s σ H R I h
  refine thn (hl pins s σ H _ I h) fun v s1 hz_ => ?_
  obtain ⟨x, H1, I1, r1, q1⟩ := hz_
  obtain ⟨a, e, ⟨xs, hq⟩, q⟩ := q1
  subst e
  cases r1
  obtain ⟨its, rv, p, hz⟩ := I1.list hq
  refine wpAny_pyIter_list p.isList ?_
  refine ⟨s1.heap.objs.size, [s1.heap.objs.size], _, _, H1, rfl, I1.kept (t' := s1.toks) fun b o e => Heap.get?_push_of_some _ e, turn_list a _, ⟨_, Heap.get?_push_size _ rfl, rfl, rfl⟩, fun b hb => ?_, q⟩
  have e : b = s1.heap.objs.size := by simpa using hb
  subst e
  exact I1.fpOk (Nat.le_refl _) (I1.hok.fresh (Nat.le_refl _))
theorem pi_tup {l : Expr} {tl : TE} (hl : PE X l tl) : PI X tg l (iTup X.K tl) := by
  intro pins s σ H R I h
  refine thn (hl pins s σ H _ I h) fun v s1 hz_ => ?_
  obtain ⟨x, H1, I1, r1, q1⟩ := hz_
  obtain ⟨a, e, ⟨xs, hq⟩, q⟩ := q1
  subst e
  cases r1
  obtain ⟨its, rv, p, hz⟩ := I1.tuple hq
  refine wpAny_pyIter_tuple (show s1.heap.IsTuple a its.toArray from p) ?_
  refine ⟨s1.heap.objs.size, [s1.heap.objs.size], _, _, H1, rfl, I1.kept (t' := s1.toks) fun b o e => Heap.get?_push_of_some _ e, turn_tuple a _, ⟨_, Heap.get?_push_size _ rfl, rfl, rfl⟩, fun b hb => ?_, q⟩
  have e : b = s1.heap.objs.size := by simpa using hb
  subst e
  exact I1.fpOk (Nat.le_refl _) (I1.hok.fresh (Nat.le_refl _))
/-- a range object just made, walked -/
theorem range_it {pins : List (Addr × Obj)} {σ : St} {H : Hp} {s : Shared} {R : It → Hp → Prop} {E : Value → Shared → Prop} {lo hi : Int} {t u v : Tok} {tk : Nat} (I : Inv X pins σ H s) (h1 : -(2 ^ 62) ≤ lo) (h2 : lo < 2 ^ 62) (h3 : -(2 ^ 62) ≤ hi) (h4 : hi < 2 ^ 62)
    (q : R (Itr lo (hi - lo).toNat) H) : wpAny (model X.prog X.w) X.A (pyIter (.ref s.heap.objs.size)) (PIE X pins σ tg R) E { s with heap := s.heap.push { cls := .type "range", data := .fields #[.int lo t, .int hi u, .int 1 v] }, toks := tk } := by
  refine wpAny_pyIter_range (IsRange.new ..) (small_one h1 h2 h3 h4) ?_
  have I1 : Inv X pins σ H { s with heap := s.heap.push { cls := .type "range", data := .fields #[.int lo t, .int hi u, .int 1 v] }, toks := tk } := I.kept fun b o e => Heap.get?_push_of_some _ e
  refine ⟨(s.heap.push { cls := .type "range", data := .fields #[.int lo t, .int hi u, .int 1 v] }).objs.size, [(s.heap.push { cls := .type "range", data := .fields #[.int lo t, .int hi u, .int 1 v] }).objs.size], _, _, H, rfl,
    I1.kept (t' := tk) fun b o e => Heap.get?_push_of_some _ e, turn_range _ lo (hi - lo).toNat, ?_, fun b hb => ?_, q⟩
  · have e1 : lo + ((0 : Nat) : Int) * 1 = lo := by simp
    have e2 : (((hi - lo).toNat : Nat) : Int) - ((0 : Nat) : Int) = Builtin.Range.rangeSize lo hi 1 := by rw [rangeSize_one]; split <;> omega
    show IsRangeIter _ _ (lo + ((0 : Nat) : Int) * 1) ((((hi - lo).toNat : Nat) : Int) - ((0 : Nat) : Int)) 1
    rw [e1, e2]
    exact Heap.get?_push_size _ rfl
  · have e : b = (s.heap.push { cls := .type "range", data := .fields #[.int lo t, .int hi u, .int 1 v] }).objs.size := by simpa using hb
    subst e
    exact I1.fpOk (Nat.le_refl _) (I1.hok.fresh (Nat.le_refl _))
def iRng1 (ta : TA) : TI := fun σ H R => ta σ H fun vs H1 => ∃ j : Int, vs = [.int j] ∧ -(2 ^ 62) ≤ j ∧ j < 2 ^ 62 ∧ R (Itr 0 j.toNat) H1
def iRng2 (ta : TA) : TI := fun σ H R => ta σ H fun vs H1 => ∃ i j : Int, vs = [.int i, .int j] ∧ (-(2 ^ 62) ≤ i ∧ i < 2 ^ 62 ∧ -(2 ^ 62) ≤ j ∧ j < 2 ^ 62) ∧ R (Itr i (j - i).toNat) H1
theorem pi_range1 {a : Expr} {ta : TA} {p pos : Pos} (hg : Gl X "range") (hm : X.mg "range" = none) (ha : PA X [a] ta) (hs : starEach [a] X.env = [(false, eval a X.env)] := by rfl) : PI X tg (.Call (.Name "range" p) [a] [] pos) (iRng1 ta) := by
  intro pins s σ H R I h
  refine Call_ (ld_blt I hg hm boot_range (PyProof.Rows.callWith_type1 (thn (ha pos pins s σ H _ I h) fun us s1 hz_ => ?_) hs rfl))
  obtain ⟨vs, H1, I1, r1, q1⟩ := hz_
  obtain ⟨j, e, q1, q2, q⟩ := q1
  subst e
  cases r1 with
  | cons r rr =>
    cases rr
    obtain ⟨t, rfl⟩ := r
    exact call_range_1 (range_it I1 (by omega) (by omega) q1 q2 (by simpa using q))
theorem pi_range2 {a b : Expr} {ta : TA} {p pos : Pos} (hg : Gl X "range") (hm : X.mg "range" = none) (ha : PA X [a, b] ta) (hs : starEach [a, b] X.env = [(false, eval a X.env), (false, eval b X.env)] := by rfl) (hs2 : starEach [b] X.env = [(false, eval b X.env)] := by rfl) :
    PI X tg (.Call (.Name "range" p) [a, b] [] pos) (iRng2 ta) := by
  intro pins s σ H R I h
  refine Call_ (ld_blt I hg hm boot_range (PyProof.Rows.callWith_type1 (thn (ha pos pins s σ H _ I h) fun us s1 hz_ => ?_) (by rw [hs, hs2]) (by rw [hs2]; rfl)))
  obtain ⟨vs, H1, I1, r1, q1⟩ := hz_
  obtain ⟨i, j, e, ⟨q1, q2, q3, q4⟩, q⟩ := q1
  subst e
  cases r1 with
  | cons r rr =>
    cases rr with
    | cons r' rr =>
      cases rr
      obtain ⟨t, rfl⟩ := r
      obtain ⟨t', rfl⟩ := r'
      exact call_range_2 (range_it I1 q1 q2 q3 q4 q)

/-! ### for -/
/-- W: the invariant by the turn and a measure; N: what the body is to reach -/
def tFor (wi : TI) (g : TG) (tb : TS) : TS := fun D σ H => wi σ H fun J H1 => ∃ W : Nat → Nat → St → Hp → Prop, (∃ m, W 0 m σ H1) ∧ ∀ i m σ H, W i m σ H →
  (J.stop i H ∧ D.nx σ H) ∨ (J.go i H ∧ ∃ N : St → Hp → Prop, (∀ σ' H', N σ' H' → ∃ m', m' < m ∧ W (i + 1) m' σ' H') ∧ ∀ x H', J.yld i H x H' → g x σ H' fun σ2 H2 => tb { D with nx := N, ct := N, bk := D.nx } σ2 H2)
/-- the records at fp as they stand -/
def pinsAt (fp : List Addr) (h : Heap) : List (Addr × Obj) := fp.filterMap fun b => (h.get? b).map fun o => (b, o)
theorem mem_pinsAt {fp : List Addr} {h : Heap} {b : Addr} {o : Obj} (hb : b ∈ fp) (e : h.get? b = some o) : (b, o) ∈ pinsAt fp h := List.mem_filterMap.mpr ⟨b, hb, by rw [e]; rfl⟩
theorem of_pinsAt {fp : List Addr} {h : Heap} {p : Addr × Obj} (hp : p ∈ pinsAt fp h) : p.1 ∈ fp ∧ h.get? p.1 = some p.2 := by
  obtain ⟨b, hb, e⟩ := List.mem_filterMap.mp hp
  cases q : h.get? b with
  | none => rw [q] at e; cases e
  | some o =>
    rw [q] at e
    have e' : (b, o) = p := Option.some.inj e
    subst e'
    exact ⟨hb, q⟩
theorem Inv.pinned {pins : List (Addr × Obj)} {σ : St} {H : Hp} {s : Shared} {fp : List Addr} (I : Inv X pins σ H s) (hf : ∀ b ∈ fp, FpOk X pins H b) (ho : ∀ b ∈ fp, ∃ o, s.heap.get? b = some o ∧ ∀ v, o.data ≠ .cell v) : Inv X (pins ++ pinsAt fp s.heap) σ H s :=
  I.pins_of fun p hp => (List.mem_append.mp hp).elim (fun z => I.pin p (List.mem_append_right _ z)) fun z => by
    obtain ⟨hb, e⟩ := of_pinsAt z
    obtain ⟨f0, f1, f2, _⟩ := hf p.1 hb
    obtain ⟨o, e', d⟩ := ho p.1 hb
    rw [e] at e'; cases e'
    exact ⟨e, f0, f1, f2, d⟩
theorem Inv.unpinned {pins pl : List (Addr × Obj)} {σ : St} {H : Hp} {s : Shared} (I : Inv X (pins ++ pl) σ H s) : Inv X pins σ H s := I.pins_of fun p hp => I.pin p (List.mem_append_right _ (List.mem_append_left _ hp))
theorem ps_for {iter : Expr} {body : List Stmt} {wi : TI} {g : TG} {tb : TS} {pos : Pos} (hp : PassesOwn (model X.prog X.w) X.A X.env X.xe) (hc : X.calm = true) (hi : PI X tg iter wi) (hg : PG X tg g) (hb : PSs X body tb)
    (hs : ∀ x, foldedSetIterable iter X.env x = pure x := by intro _; rfl) : PS X (.For tg iter body [] pos) (tFor wi g tb) := by
  intro pins s σ H D I h
  refine wpAny_For (thn (hi pins s σ H _ I h) fun v s1 h1 => thn h1 fun itv s2 h2 => ?_) hs
  obtain ⟨it, fp, tn, J, H2, e, I2, T, st2, f2, W, ⟨m0, w0⟩, turn⟩ := h2
  subst e
  -- what stays true of the iterator's objects through the loop
  have stat : ∀ {H' : Hp}, (∀ b ∈ fp, H' b = none) → ∀ b ∈ fp, FpOk X pins H' b := fun hn b hb => ⟨hn b hb, (f2 b hb).2⟩
  refine codeAny_forLoop_any (fun n s' => ∃ i σ' H', Inv X pins σ' H' s' ∧ tn i s'.heap ∧ (∀ b ∈ fp, H' b = none) ∧ W i n σ' H') ?_ m0 ⟨0, σ, H2, I2, st2, fun b hb => (f2 b hb).1, w0⟩
  rintro n s3 ⟨i, σ3, H3, I3, st3, fr3, w3⟩
  rcases turn i n σ3 H3 w3 with ⟨stop, qn⟩ | ⟨go, N, hN, step⟩
  · refine wpAny_passesOwn hp (thn (T.done X rfl rfl rfl hc i pins s3 σ3 H3 X.xe I3 (stat fr3) st3 stop) fun r s4 hz_ => ?_)
    obtain ⟨hr, I4⟩ := hz_
    subst hr
    exact wpAny_execs_nil ⟨σ3, H3, I4, qn⟩
  · refine wpAny_passesOwn hp (thn (T.item X rfl rfl rfl hc i pins s3 σ3 H3 X.xe I3 (stat fr3) st3 go) fun r s4 hz_ => ?_)
    obtain ⟨u, hr, h4⟩ := hz_
    subst hr
    refine wpAny_passesOwn hp (thn h4 fun _ s5 hz_ => ?_)
    obtain ⟨x, H5, I5, r5, y5, st5, fr5⟩ := hz_
    have I5' := I5.pinned (stat fr5) (T.obj _ _ st5)
    refine wpAny_passesOwn hp (thn (hg _ s5 σ3 H5 x u _ I5' r5 (step x H5 y5)) fun _ s6 hz_ => ?_)
    obtain ⟨σ6, H6, I6, q6⟩ := hz_
    refine wpAny_passesOwn hp (thn (hb _ s6 σ6 H6 _ I6 q6) fun f s7 q7 => ?_)
    have again : ∀ {σ7 : St} {H7 : Hp}, Inv X (pins ++ pinsAt fp s5.heap) σ7 H7 s7 → N σ7 H7 → ∃ m, m < n ∧ ∃ i σ' H', Inv X pins σ' H' s7 ∧ tn i s7.heap ∧ (∀ b ∈ fp, H' b = none) ∧ W i m σ' H' := fun {σ7 H7} I7 n7 => by
      obtain ⟨m', hm, w7⟩ := hN σ7 H7 n7
      refine ⟨m', hm, i + 1, σ7, H7, I7.unpinned, T.keep _ _ _ st5 fun b hb o e => (I7.pin (b, o) (List.mem_append_right _ (List.mem_append_right _ (mem_pinsAt hb e)))).1, fun b hb => ?_, w7⟩
      obtain ⟨o, e, d⟩ := T.obj _ _ st5 b hb
      exact (I7.pin (b, o) (List.mem_append_right _ (List.mem_append_right _ (mem_pinsAt hb e)))).2.1
    cases f with
    | next => obtain ⟨σ7, H7, I7, n7⟩ := q7; exact again I7 n7
    | cont => obtain ⟨σ7, H7, I7, n7⟩ := q7; exact again I7 n7
    | brk => obtain ⟨σ7, H7, I7, q7⟩ := q7; exact ⟨σ7, H7, I7.unpinned, q7⟩
    | ret v => obtain ⟨x7, σ7, H7, I7, r7, q7⟩ := q7; exact ⟨x7, σ7, H7, I7.unpinned, r7, q7⟩
end

/-! ### the forms one uses -/
/-- over a list that the body leaves as it is -/
theorem for_list {K : PySem.W.Frag} {a : Addr} {xs : List V} {g : TG} {tb : TS} {D : Ends} {σ : St} {H : Hp} (Pv : Nat → St → Hp → Prop) (h0 : Pv 0 σ H) (hl : ∀ i σ H, i ≤ xs.length → Pv i σ H → SqL K H a xs)
    (hs : ∀ i x σ H, xs[i]? = some x → Pv i σ H → g x σ H fun σ2 H2 => tb { D with nx := Pv (i + 1), ct := Pv (i + 1), bk := D.nx } σ2 H2) (hd : ∀ σ H, Pv xs.length σ H → D.nx σ H) :
    ∃ W : Nat → Nat → St → Hp → Prop, (∃ m, W 0 m σ H) ∧ ∀ i m σ H, W i m σ H →
      ((Itl K a).stop i H ∧ D.nx σ H) ∨ ((Itl K a).go i H ∧ ∃ N : St → Hp → Prop, (∀ σ' H', N σ' H' → ∃ m', m' < m ∧ W (i + 1) m' σ' H') ∧ ∀ x H', (Itl K a).yld i H x H' → g x σ H' fun σ2 H2 => tb { D with nx := N, ct := N, bk := D.nx } σ2 H2) := by
  refine ⟨fun i m σ H => m = xs.length - i ∧ i ≤ xs.length ∧ Pv i σ H, ⟨xs.length, by simp, Nat.zero_le _, h0⟩, ?_⟩
  rintro i m σ H ⟨rfl, hi, p⟩
  have q := hl i σ H hi p
  by_cases hlt : i < xs.length
  · refine .inr ⟨⟨xs, xs[i], q, by simp [hlt]⟩, Pv (i + 1), fun σ' H' p' => ⟨xs.length - (i + 1), by omega, rfl, hlt, p'⟩, fun x H' y => ?_⟩
    obtain ⟨e, y⟩ := y
    subst e
    exact hs i x σ _ (y xs q) p
  · have e : i = xs.length := by omega
    subst e
    exact .inl ⟨⟨xs, q, Nat.le_refl _⟩, hd σ H p⟩
theorem for_tup {K : PySem.W.Frag} {a : Addr} {xs : List V} {g : TG} {tb : TS} {D : Ends} {σ : St} {H : Hp} (Pv : Nat → St → Hp → Prop) (h0 : Pv 0 σ H) (hl : ∀ i σ H, i ≤ xs.length → Pv i σ H → SqT K H a xs)
    (hs : ∀ i x σ H, xs[i]? = some x → Pv i σ H → g x σ H fun σ2 H2 => tb { D with nx := Pv (i + 1), ct := Pv (i + 1), bk := D.nx } σ2 H2) (hd : ∀ σ H, Pv xs.length σ H → D.nx σ H) :
    ∃ W : Nat → Nat → St → Hp → Prop, (∃ m, W 0 m σ H) ∧ ∀ i m σ H, W i m σ H →
      ((Itt K a).stop i H ∧ D.nx σ H) ∨ ((Itt K a).go i H ∧ ∃ N : St → Hp → Prop, (∀ σ' H', N σ' H' → ∃ m', m' < m ∧ W (i + 1) m' σ' H') ∧ ∀ x H', (Itt K a).yld i H x H' → g x σ H' fun σ2 H2 => tb { D with nx := N, ct := N, bk := D.nx } σ2 H2) := by
  refine ⟨fun i m σ H => m = xs.length - i ∧ i ≤ xs.length ∧ Pv i σ H, ⟨xs.length, by simp, Nat.zero_le _, h0⟩, ?_⟩
  rintro i m σ H ⟨rfl, hi, p⟩
  have q := hl i σ H hi p
  by_cases hlt : i < xs.length
  · refine .inr ⟨⟨xs, xs[i], q, by simp [hlt]⟩, Pv (i + 1), fun σ' H' p' => ⟨xs.length - (i + 1), by omega, rfl, hlt, p'⟩, fun x H' y => ?_⟩
    obtain ⟨e, y⟩ := y
    subst e
    exact hs i x σ _ (y xs q) p
  · have e : i = xs.length := by omega
    subst e
    exact .inl ⟨⟨xs, q, Nat.le_refl _⟩, hd σ H p⟩
theorem for_range {lo : Int} {n : Nat} {g : TG} {tb : TS} {D : Ends} {σ : St} {H : Hp} (Pv : Nat → St → Hp → Prop) (h0 : Pv 0 σ H)
    (hs : ∀ i σ H, i < n → Pv i σ H → g (.int (lo + i)) σ H fun σ2 H2 => tb { D with nx := Pv (i + 1), ct := Pv (i + 1), bk := D.nx } σ2 H2) (hd : ∀ σ H, Pv n σ H → D.nx σ H) :
    ∃ W : Nat → Nat → St → Hp → Prop, (∃ m, W 0 m σ H) ∧ ∀ i m σ H, W i m σ H →
      ((Itr lo n).stop i H ∧ D.nx σ H) ∨ ((Itr lo n).go i H ∧ ∃ N : St → Hp → Prop, (∀ σ' H', N σ' H' → ∃ m', m' < m ∧ W (i + 1) m' σ' H') ∧ ∀ x H', (Itr lo n).yld i H x H' → g x σ H' fun σ2 H2 => tb { D with nx := N, ct := N, bk := D.nx } σ2 H2) := by
  refine ⟨fun i m σ H => m = n - i ∧ i ≤ n ∧ Pv i σ H, ⟨n, by simp, Nat.zero_le _, h0⟩, ?_⟩
  rintro i m σ H ⟨rfl, hi, p⟩
  by_cases hlt : i < n
  · refine .inr ⟨hlt, Pv (i + 1), fun σ' H' p' => ⟨n - (i + 1), by omega, rfl, hlt, p'⟩, fun x H' y => ?_⟩
    obtain ⟨e, y⟩ := y
    subst e y
    exact hs i σ _ hlt p
  · have e : i = n := by omega
    subst e
    exact .inl ⟨Nat.le_refl _, hd σ H p⟩
end L2

namespace L2
open PySem PySem.Spec PyProof.Rows

abbrev R2 := V → V → Hp → VK → Prop
/-- a two-place operation on values: f is binaryOp op, inplaceOp op or compareOp op -/
def OpR (X : Cx) (f : Value → Value → Sem Value) (r : R2) : Prop :=
  ∀ (pins : List (Addr × Obj)) (s : Shared) (σ : St) (H : Hp) (x y : V) (v u : Value) (Q : VK), Inv X pins σ H s → RelV x v → RelV y u → r x y H Q →
    wpAny (model X.prog X.w) X.A (f v u) (EP X pins σ Q) X.xe s
/-- a one-place operation -/
def UnR (X : Cx) (f : Value → Sem Value) (r : V → Hp → VK → Prop) : Prop :=
  ∀ (pins : List (Addr × Obj)) (s : Shared) (σ : St) (H : Hp) (x : V) (v : Value) (Q : VK), Inv X pins σ H s → RelV x v → r x H Q →
    wpAny (model X.prog X.w) X.A (f v) (EP X pins σ Q) X.xe s
/-- a call of a value that is known (a builtin, a type) with values -/
def CallR (X : Cx) (f : Value) (r : List V → Hp → VK → Prop) : Prop :=
  ∀ (pins : List (Addr × Obj)) (s : Shared) (σ : St) (H : Hp) (xs : List V) (us : List Value) (Q : VK), Inv X pins σ H s → Vals xs us → r xs H Q →
    wpAny (model X.prog X.w) X.A (call f us) (EP X pins σ Q) X.xe s
/-- a value's truth -/
def TruR (X : Cx) (r : V → Hp → (Bool → Hp → Prop) → Prop) : Prop :=
  ∀ (pins : List (Addr × Obj)) (s : Shared) (σ : St) (H : Hp) (x : V) (v : Value) (Q : Bool → Hp → Prop), Inv X pins σ H s → RelV x v → r x H Q →
    wpAny (model X.prog X.w) X.A (truthy v) (TP X pins σ Q) X.xe s

def tOp (r : R2) (ta tb : TE) : TE := fun σ H Q => ta σ H fun x H1 => tb σ H1 fun y H2 => r x y H2 Q
def tUn (r : V → Hp → VK → Prop) (ta : TE) : TE := fun σ H Q => ta σ H fun x H1 => r x H1 Q
/-- ints in, under C, and a value out -/
def rI (C : Int → Int → Prop) (g : Int → Int → V) : R2 := fun x y H Q => ∃ i j, x = .int i ∧ y = .int j ∧ C i j ∧ Q (g i j) H
def rI0 (g : Int → Int → V) : R2 := fun x y H Q => ∃ i j, x = .int i ∧ y = .int j ∧ Q (g i j) H
def rU (g : Int → V) : V → Hp → VK → Prop := fun x H Q => ∃ i, x = .int i ∧ Q (g i) H

section
variable {X : Cx} {a b c : Expr} {ta tb tc : TE} {pos : Pos}

theorem binT (ha : PE X a ta) (hb : PE X b tb) {pins : List (Addr × Obj)} {s : Shared} {σ : St} {H : Hp} {R : V → V → Hp → Prop} (I : Inv X pins σ H s)
    (h : ta σ H fun x H1 => tb σ H1 fun y H2 => R x y H2) {Q : Value → Shared → Prop} {f : Value → Value → Sem Value}
    (hf : ∀ v u s2 x y H2, Inv X pins σ H2 s2 → RelV x v → RelV y u → R x y H2 → wpAny (model X.prog X.w) X.A (f v u) Q X.xe s2) :
    wpAny (model X.prog X.w) X.A (eval a X.env) (fun v s₁ => wpAny (model X.prog X.w) X.A (eval b X.env) (fun u s₂ => wpAny (model X.prog X.w) X.A (f v u) Q X.xe s₂) X.xe s₁) X.xe s := by
  refine thn (ha pins s σ H _ I h) fun v s1 hz_ => ?_
  obtain ⟨x, H1, I1, r1, q1⟩ := hz_
  refine thn (hb pins s1 σ H1 _ I1 q1) fun u s2 hz_ => ?_
  obtain ⟨y, H2, I2, r2, q2⟩ := hz_
  exact hf v u s2 x y H2 I2 r1 r2 q2

theorem pe_op {op : Operator} {r : R2} (ho : OpR X (binaryOp op) r) (ha : PE X a ta) (hb : PE X b tb) : PE X (.BinOp a op b pos) (tOp r ta tb) := by
  intro pins s σ H Q I h
  exact wpAny_BinOp (binT ha hb I h fun v u s2 x y H2 I2 rx ry q => ho pins s2 σ H2 x y v u Q I2 rx ry q)
theorem pe_un {op : UnaryOp} {r : V → Hp → VK → Prop} (ho : UnR X (unaryOp op) r) (ha : PE X a ta) : PE X (.UnaryOp op a pos) (tUn r ta) := by
  intro pins s σ H Q I h
  refine UnaryOp_ (thn (ha pins s σ H _ I h) fun v s1 hz_ => ?_)
  obtain ⟨x, H1, I1, r1, q1⟩ := hz_
  exact ho pins s1 σ H1 x v Q I1 r1 q1
/-! ### ints -/
theorem opI {f : Value → Value → Sem Value} {C : Int → Int → Prop} {g : Int → Int → Int}
    (rule : ∀ (i j : Int) (t u : Tok) (s : Shared) (Q : Value → Shared → Prop) (E : Value → Shared → Prop), C i j → Q (.int (g i j) s.toks) { s with toks := s.toks + 1 } → wpAny (model X.prog X.w) X.A (f (.int i t) (.int j u)) Q E s) :
    OpR X f (rI C fun i j => .int (g i j)) := by
  intro pins s σ H x y v u Q I rx ry h
  obtain ⟨i, j, rfl, rfl, hc, q⟩ := h
  obtain ⟨t, rfl⟩ := rx
  obtain ⟨t', rfl⟩ := ry
  exact rule i j t t' s _ _ hc ⟨.int (g i j), H, I.tok _, ⟨_, rfl⟩, q⟩
theorem opI0 {f : Value → Value → Sem Value} {g : Int → Int → Int}
    (rule : ∀ (i j : Int) (t u : Tok) (s : Shared) (Q : Value → Shared → Prop) (E : Value → Shared → Prop), Q (.int (g i j) s.toks) { s with toks := s.toks + 1 } → wpAny (model X.prog X.w) X.A (f (.int i t) (.int j u)) Q E s) :
    OpR X f (rI0 fun i j => .int (g i j)) := by
  intro pins s σ H x y v u Q I rx ry h
  obtain ⟨i, j, rfl, rfl, q⟩ := h
  obtain ⟨t, rfl⟩ := rx
  obtain ⟨t', rfl⟩ := ry
  exact rule i j t t' s _ _ ⟨.int (g i j), H, I.tok _, ⟨_, rfl⟩, q⟩
theorem opB0 {f : Value → Value → Sem Value} {g : Int → Int → Bool}
    (rule : ∀ (i j : Int) (t u : Tok) (s : Shared) (Q : Value → Shared → Prop) (E : Value → Shared → Prop), Q (.bool (g i j)) s → wpAny (model X.prog X.w) X.A (f (.int i t) (.int j u)) Q E s) :
    OpR X f (rI0 fun i j => .bl (g i j)) := by
  intro pins s σ H x y v u Q I rx ry h
  obtain ⟨i, j, rfl, rfl, q⟩ := h
  obtain ⟨t, rfl⟩ := rx
  obtain ⟨t', rfl⟩ := ry
  exact rule i j t t' s _ _ ⟨.bl (g i j), H, I, rfl, q⟩

def CDiv (i j : Int) : Prop := 0 < j ∧ j < 1073741824
def CDivN (i j : Int) : Prop := j ≠ 0 ∧ j.natAbs < 1073741824
def CPow (i j : Int) : Prop := 0 ≤ j ∧ j ≤ 1000000 ∧ i.natAbs < 2 ^ 64
def CMul (i j : Int) : Prop := (-(2 ^ 64) < i ∧ i < 2 ^ 64) ∨ (-(2 ^ 64) < j ∧ j < 2 ^ 64)
theorem CMul.ok {i j : Int} (h : CMul i j) : IntMulOk i j := by
  rcases h with ⟨h1, h2⟩ | ⟨h1, h2⟩
  · exact .of_left (intBits_le_64 h1 h2)
  · exact .of_right (intBits_le_64 h1 h2)
theorem op_add : OpR X (binaryOp .Add) (rI0 fun i j => .int (i + j)) := opI0 fun _ _ _ _ _ _ _ q => add_int q
theorem op_sub : OpR X (binaryOp .Sub) (rI0 fun i j => .int (i - j)) := opI0 fun _ _ _ _ _ _ _ q => sub_int q
theorem op_mul : OpR X (binaryOp .Mult) (rI CMul fun i j => .int (i * j)) := opI fun _ _ _ _ _ _ _ hc q => mul_int q hc.ok
/-- // by a positive divisor -/
theorem op_fdiv : OpR X (binaryOp .FloorDiv) (rI CDiv fun i j => .int (i / j)) := opI fun i j _ _ _ _ _ hc q => by
  have h1 : (0 : Int) < j := hc.1
  have h2 : j < 1073741824 := hc.2
  exact floordiv_int (by omega) (by rw [Int.fdiv_eq_ediv_of_nonneg i (by omega)]; exact q) (.inl (PyProof.noPylong_small (by omega)))
/-- % by a positive divisor of any size -/
theorem op_mod : OpR X (binaryOp .Mod) (rI (fun _ j => 0 < j) fun i j => .int (i % j)) := opI fun i j _ _ _ _ _ hc q => by
  have h1 : (0 : Int) < j := hc
  exact mod_int' (by omega) (by rw [Int.fmod_eq_emod_of_nonneg i (by omega)]; exact q)
theorem unI {f : Value → Sem Value} {g : Int → Int}
    (rule : ∀ (i : Int) (t : Tok) (s : Shared) (Q : Value → Shared → Prop) (E : Value → Shared → Prop), Q (.int (g i) s.toks) { s with toks := s.toks + 1 } → wpAny (model X.prog X.w) X.A (f (.int i t)) Q E s) :
    UnR X f (rU fun i => .int (g i)) := by
  intro pins s σ H x v Q I rx h
  obtain ⟨i, rfl, q⟩ := h
  obtain ⟨t, rfl⟩ := rx
  exact rule i t s _ _ ⟨.int (g i), H, I.tok _, ⟨_, rfl⟩, q⟩
theorem un_neg : UnR X (unaryOp .USub) (rU fun i => .int (-i)) := unI fun _ _ _ _ _ q => neg_int q
/-! ### bools among ints: n += (a < b) -/
end

/-! ### comparisons -/
/-- the scalars that == tells apart as data does -/
def scal : V → V → Bool
  | .non, .non => true | .non, .int _ => true | .int _, .non => true | .non, .bl _ => true | .bl _, .non => true | .non, .str _ => true | .str _, .non => true
  | .int _, .int _ => true | .bl _, .bl _ => true | .str _, .str _ => true | .byt _, .byt _ => true
  | .int _, .str _ => true | .str _, .int _ => true | .bl _, .str _ => true | .str _, .bl _ => true
  | _, _ => false
def rEq : R2 := fun x y H Q => scal x y = true ∧ Q (.bl (decide (x = y))) H
def rNe : R2 := fun x y H Q => scal x y = true ∧ Q (.bl (!decide (x = y))) H

theorem dec_int {i j : Int} : decide (V.int i = V.int j) = (i == j) := by
  rw [Bool.eq_iff_iff]
  simp
theorem dec_bl {i j : Bool} : decide (V.bl i = V.bl j) = (i == j) := by
  rw [Bool.eq_iff_iff]
  simp
theorem dec_str {i j : Str} : decide (V.str i = V.str j) = (i == j) := by
  rw [Bool.eq_iff_iff]
  simp
theorem dec_byt {i j : Array UInt8} : decide (V.byt i = V.byt j) = (i.toList == j.toList) := by
  rw [Bool.eq_iff_iff]
  cases i
  cases j
  simp

section
variable {X : Cx} {a b c : Expr} {ta tb tc : TE} {pos : Pos}
theorem fin_bl {pins : List (Addr × Obj)} {σ : St} {H : Hp} {s : Shared} {Q : VK} {k k' : Bool} (I : Inv X pins σ H s) (q : Q (.bl k) H) (e : k = k') : EP X pins σ Q (.bool k') s := by
  subst e
  exact ⟨.bl k, H, I, rfl, q⟩
theorem op_eq : OpR X (compareOp .Eq) rEq := by
  intro pins s σ H x y v u Q I rx ry h
  obtain ⟨hs, q⟩ := h
  cases x with
  | non =>
    cases rx
    cases y with
    | non => cases ry; exact PySem.EqNone.eq_none_none (fin_bl I q (by simp))
    | bl j => cases ry; exact PySem.EqNone.eq_none_bool (fin_bl I q (by simp))
    | int j => obtain ⟨t', rfl⟩ := ry; exact PySem.EqNone.eq_none_int (fin_bl I q (by simp))
    | str j => obtain ⟨t', rfl⟩ := ry; exact PySem.EqNone.eq_none_str (fin_bl I q (by simp))
    | _ => exact absurd (show false = true from hs) Bool.false_ne_true
  | bl i =>
    cases rx
    cases y with
    | non => cases ry; exact PySem.EqNone.eq_bool_none (fin_bl I q (by simp))
    | bl j => cases ry; exact eq_bool (fin_bl I q dec_bl)
    | str j => obtain ⟨t', rfl⟩ := ry; exact PySem.EqMixed.eq_bool_str (fin_bl I q (by simp))
    | _ => exact absurd (show false = true from hs) Bool.false_ne_true
  | int i =>
    obtain ⟨t, rfl⟩ := rx
    cases y with
    | non => cases ry; exact PySem.EqNone.eq_int_none (fin_bl I q (by simp))
    | int j => obtain ⟨t', rfl⟩ := ry; exact eq_int (fin_bl I q dec_int)
    | str j => obtain ⟨t', rfl⟩ := ry; exact PySem.EqMixed.eq_int_str (fin_bl I q (by simp))
    | _ => exact absurd (show false = true from hs) Bool.false_ne_true
  | str i =>
    obtain ⟨t, rfl⟩ := rx
    cases y with
    | non => cases ry; exact PySem.EqNone.eq_str_none (fin_bl I q (by simp))
    | bl j => cases ry; exact PySem.EqMixed.eq_str_bool (fin_bl I q (by simp))
    | int j => obtain ⟨t', rfl⟩ := ry; exact PySem.EqMixed.eq_str_int (fin_bl I q (by simp))
    | str j => obtain ⟨t', rfl⟩ := ry; exact eq_str (fin_bl I q dec_str)
    | _ => exact absurd (show false = true from hs) Bool.false_ne_true
  | byt i =>
    obtain ⟨t, rfl⟩ := rx
    cases y with
    | byt j => obtain ⟨t', rfl⟩ := ry; exact PySem.W.eq_bytes (fin_bl I q dec_byt)
    | _ => exact absurd (show false = true from hs) Bool.false_ne_true
  | _ => cases y <;> exact absurd (show false = true from hs) Bool.false_ne_true
theorem op_ne : OpR X (compareOp .NotEq) rNe := by
  intro pins s σ H x y v u Q I rx ry h
  obtain ⟨hs, q⟩ := h
  cases x with
  | non =>
    cases rx
    cases y with
    | non => cases ry; exact PySem.EqNone.ne_none_none (fin_bl I q (by simp))
    | bl j => cases ry; exact PySem.EqNone.ne_none_bool (fin_bl I q (by simp))
    | int j => obtain ⟨t', rfl⟩ := ry; exact PySem.EqNone.ne_none_int (fin_bl I q (by simp))
    | str j => obtain ⟨t', rfl⟩ := ry; exact PySem.EqNone.ne_none_str (fin_bl I q (by simp))
    | _ => exact absurd (show false = true from hs) Bool.false_ne_true
  | bl i =>
    cases rx
    cases y with
    | non => cases ry; exact PySem.EqNone.ne_bool_none (fin_bl I q (by simp))
    | bl j => cases ry; exact ne_bool (fin_bl I q (congrArg not dec_bl))
    | str j => obtain ⟨t', rfl⟩ := ry; exact PySem.EqMixed.ne_bool_str (fin_bl I q (by simp))
    | _ => exact absurd (show false = true from hs) Bool.false_ne_true
  | int i =>
    obtain ⟨t, rfl⟩ := rx
    cases y with
    | non => cases ry; exact PySem.EqNone.ne_int_none (fin_bl I q (by simp))
    | int j => obtain ⟨t', rfl⟩ := ry; exact ne_int (fin_bl I q (congrArg not dec_int))
    | str j => obtain ⟨t', rfl⟩ := ry; exact PySem.EqMixed.ne_int_str (fin_bl I q (by simp))
    | _ => exact absurd (show false = true from hs) Bool.false_ne_true
  | str i =>
    obtain ⟨t, rfl⟩ := rx
    cases y with
    | non => cases ry; exact PySem.EqNone.ne_str_none (fin_bl I q (by simp))
    | bl j => cases ry; exact PySem.EqMixed.ne_str_bool (fin_bl I q (by simp))
    | int j => obtain ⟨t', rfl⟩ := ry; exact PySem.EqMixed.ne_str_int (fin_bl I q (by simp))
    | str j => obtain ⟨t', rfl⟩ := ry; exact ne_str (fin_bl I q (congrArg not dec_str))
    | _ => exact absurd (show false = true from hs) Bool.false_ne_true
  | byt i =>
    obtain ⟨t, rfl⟩ := rx
    cases y with
    | byt j => obtain ⟨t', rfl⟩ := ry; exact PySem.W.ne_bytes (fin_bl I q (congrArg not dec_byt))
    | _ => exact absurd (show false = true from hs) Bool.false_ne_true
  | _ => cases y <;> exact absurd (show false = true from hs) Bool.false_ne_true

theorem op_lt : OpR X (compareOp .Lt) (rI0 fun i j => .bl (decide (i < j))) := opB0 fun _ _ _ _ _ _ _ q => lt_int q
theorem op_le : OpR X (compareOp .LtE) (rI0 fun i j => .bl (decide (i ≤ j))) := opB0 fun _ _ _ _ _ _ _ q => le_int q
theorem op_gt : OpR X (compareOp .Gt) (rI0 fun i j => .bl (decide (j < i))) := opB0 fun _ _ _ _ _ _ _ q => gt_int q
/-- is, is not of two objects that are tracked lists or instances -/
def isObj : HO → Bool
  | .lst _ => true
  | .ins _ _ _ => true
  | _ => false
theorem nomark (b : Expr) {op : CmpOp} (h : op ≠ .In := by decide) (h2 : op ≠ .NotIn := by decide) : behindInMarks op b = false := by
  have e1 : (op == CmpOp.In) = false := by cases op <;> first | rfl | exact absurd rfl h
  have e2 : (op == CmpOp.NotIn) = false := by cases op <;> first | rfl | exact absurd rfl h2
  cases b <;> simp [behindInMarks, e1, e2]
/-- a comparison as a value; hm: nomark b, or (for in, not in) by with_unfolding_all rfl -/
theorem pe_cmpR {op : CmpOp} {r : R2} (ho : OpR X (compareOp op) r) (ha : PE X a ta) (hb : PE X b tb) (hm : behindInMarks op b = false) : PE X (.Compare a [op] [b] pos) (tOp r ta tb) := by
  intro pins s σ H Q I h
  exact wpAny_Compare1 (binT ha hb I h fun v u s2 x y H2 I2 rx ry q => ho pins s2 σ H2 x y v u Q I2 rx ry q) hm
/-- a reading of a value as a test -/
def tTest (t : TE) : TT := fun σ H Q => t σ H fun x H' => ∃ k, x = .bl k ∧ Q k H'
theorem pt_cmpR {op : CmpOp} {r : R2} (ho : OpR X (compareOp op) r) (ha : PE X a ta) (hb : PE X b tb) (hm : behindInMarks op b = false) : PT X (.Compare a [op] [b] pos) (tTest (tOp r ta tb)) := by
  intro pins s σ H Q I h
  refine wpAny_isTrue_Compare1 (thn (ha pins s σ H _ I h) fun v s1 ⟨x, H1, I1, r1, q1⟩ => thn (hb pins s1 σ H1 _ I1 q1) fun u s2 ⟨y, H2, I2, r2, q2⟩ =>
    thn (ho pins s2 σ H2 x y v u _ I2 r1 r2 q2) fun c s3 ⟨z, H3, I3, r3, k, e, q3⟩ => ?_) hm
  subst e
  cases r3
  exact wpAny_truthy_bool ⟨H3, I3, q3⟩
/-- a op1 b op2 c -/
def tChain (r r' : R2) (ta tb tc : TE) : TE := fun σ H Q => ta σ H fun x H1 => tb σ H1 fun y H2 => r x y H2 fun z H3 => ∃ k, z = .bl k ∧
  (if k = true then tc σ H3 fun w' H4 => r' y w' H4 Q else Q (.bl false) H3)
theorem pe_chain {op op' : CmpOp} {r r' : R2} (ho : OpR X (compareOp op) r) (ho' : OpR X (compareOp op') r') (ha : PE X a ta) (hb : PE X b tb) (hc : PE X c tc)
    (hm : lastMarks [op, op'] [b, c] = false := by with_unfolding_all rfl) : PE X (.Compare a [op, op'] [b, c] pos) (tChain r r' ta tb tc) := by
  intro pins s σ H Q I h
  refine Compare_chain (thn (ha pins s σ H _ I h) fun v s1 ⟨x, H1, I1, r1, q1⟩ => chain_link (thn (hb pins s1 σ H1 _ I1 q1) fun u s2 ⟨y, H2, I2, r2, q2⟩ =>
    thn (ho pins s2 σ H2 x y v u _ I2 r1 r2 q2) fun d s3 ⟨z, H3, I3, r3, k, e, q3⟩ => ?_)) hm
  subst e
  cases r3
  refine wpAny_truthy_bool ?_
  cases k with
  | false => exact ite_ff ⟨.bl false, H3, I3, rfl, q3⟩
  | true => exact ite_tt (chain_last (thn (hc pins s3 σ H3 _ I3 q3) fun w' s4 ⟨z', H4, I4, r4, q4⟩ => ho' pins s4 σ H4 y z' u w' Q I4 r2 r4 q4))
theorem pt_chain {op op' : CmpOp} {r r' : R2} (ho : OpR X (compareOp op) r) (ho' : OpR X (compareOp op') r') (ha : PE X a ta) (hb : PE X b tb) (hc : PE X c tc)
    (hm : lastMarks [op, op'] [b, c] = false := by with_unfolding_all rfl) : PT X (.Compare a [op, op'] [b, c] pos) (tTest (tChain r r' ta tb tc)) := by
  intro pins s σ H Q I h
  refine isTrue_chain (thn (ha pins s σ H _ I h) fun v s1 ⟨x, H1, I1, r1, q1⟩ => test_link (thn (hb pins s1 σ H1 _ I1 q1) fun u s2 ⟨y, H2, I2, r2, q2⟩ =>
    thn (ho pins s2 σ H2 x y v u _ I2 r1 r2 q2) fun d s3 ⟨z, H3, I3, r3, k, e, q3⟩ => ?_)) hm
  subst e
  cases r3
  refine wpAny_truthy_bool ?_
  cases k with
  | false =>
    obtain ⟨k', e', q'⟩ := q3
    cases e'
    exact ite_ff ⟨H3, I3, q'⟩
  | true =>
    refine ite_tt (test_last (thn (hc pins s3 σ H3 _ I3 q3) fun w' s4 hz_ => ?_))
    obtain ⟨z', H4, I4, r4, q4⟩ := hz_
    refine thn (ho' pins s4 σ H4 y z' u w' _ I4 r2 r4 q4) fun d' s5 hz_ => ?_
    obtain ⟨z2, H5, I5, r5, k2, e2, q5⟩ := hz_
    subst e2
    cases r5
    exact wpAny_truthy_bool ⟨H5, I5, q5⟩

/-! ### truth -/
/-- a value's truth by the abstract heap -/
def TruV (K : PySem.W.Frag) (x : V) (H : Hp) (k : Bool) : Prop :=
  match x with
  | .non => k = false
  | .bl b => k = b
  | .int i => k = (i != 0)
  | .str y => y.length ≤ sizeLine ∧ k = ((y.length : Int) != 0)
  | .byt y => y.size ≤ sizeLine ∧ k = ((y.size : Int) != 0)
  | .ref p => (∃ xs, SqL K H p xs ∧ k = !xs.isEmpty) ∨ (∃ xs, SqT K H p xs ∧ k = !xs.isEmpty) ∨ ∃ kvs, H p = some (.dK kvs) ∧ k = !kvs.isEmpty
  | _ => False
theorem isEmpty_kv {κ : Type} {kvs : List (κ × V)} {vs : List (κ × Value)} (r : KV kvs vs) : (!vs.isEmpty) = !kvs.isEmpty := by
  cases r <;> rfl
theorem isEmpty_of {xs : List V} {its : List Value} (r : Vals xs its) : (!its.toArray.isEmpty) = !xs.isEmpty := by
  cases r <;> simp
theorem line63 : (sizeLine : Nat) < 2 ^ 63 := by rw [sizeLine_eq]; decide
theorem tru_ok : TruR X (fun x H Q => ∃ k, TruV X.K x H k ∧ Q k H) := by
  intro pins s σ H x v Q I rx h
  obtain ⟨k, e, q⟩ := h
  have hl := line63
  have hs : sizeLine = 16777216 := sizeLine_eq
  cases x with
  | non =>
    cases rx
    have e' : k = false := e
    subst e'
    exact truthy_none ⟨H, I, q⟩
  | bl b =>
    cases rx
    have e' : k = b := e
    subst e'
    exact wpAny_truthy_bool ⟨H, I, q⟩
  | int i =>
    obtain ⟨t, rfl⟩ := rx
    have e' : k = (i != 0) := e
    subst e'
    exact PySem.P.truthy_int ⟨H, I, q⟩
  | str y =>
    obtain ⟨t, rfl⟩ := rx
    obtain ⟨hy, e'⟩ : y.length ≤ sizeLine ∧ k = ((y.length : Int) != 0) := e
    subst e'
    exact PySem.P.truthy_str (by omega) ⟨H, I.tok _, q⟩
  | byt y =>
    obtain ⟨t, rfl⟩ := rx
    obtain ⟨hy, e'⟩ : y.size ≤ sizeLine ∧ k = ((y.size : Int) != 0) := e
    subst e'
    exact PySem.W.truthy_bytes (by omega) ⟨H, I.tok _, q⟩
  | ref p =>
    cases rx
    have e' : (∃ xs, SqL X.K H p xs ∧ k = !xs.isEmpty) ∨ (∃ xs, SqT X.K H p xs ∧ k = !xs.isEmpty) ∨ ∃ kvs, H p = some (.dK kvs) ∧ k = !kvs.isEmpty := e
    rcases e' with ⟨xs, hx, e'⟩ | ⟨xs, hx, e'⟩ | ⟨kvs, hx, e'⟩
    · subst e'
      obtain ⟨its, r, pl, hz⟩ := I.list hx
      have hlen := r.length
      exact wpAny_truthy_list pl.isList (by simp only [List.size_toArray]; omega) ⟨H, I.tok _, by rw [isEmpty_of r]; exact q⟩
    · subst e'
      obtain ⟨its, r, pl, hz⟩ := I.tuple hx
      have hlen := r.length
      exact truthy_tuple pl (by simp only [List.size_toArray]; omega) ⟨H, I.tok _, by rw [isEmpty_of r]; exact q⟩
    · subst e'
      obtain ⟨hz, hS, vs, r, m⟩ : kvs.length ≤ sizeLine ∧ (p == sysModules) = false ∧ ∃ vs, KV kvs vs ∧ s.heap.DictOf (mixKind X.prog X.w) p vs := I.hok p _ hx
      have hlen : kvs.length = vs.length := Paired.length r
      exact wpAny_truthy_dict hS m (by omega) ⟨H, I.tok _, by rw [isEmpty_kv r]; exact q⟩
  | _ => exact (show False from e).elim
/-- any expression whose test is its value's truth (a name, a call, a subscript, a field ..: he by fun _ => rfl) -/
theorem pt_truth (ha : PE X a ta) (he : ∀ whole, isTrue a X.env whole = (do let v ← whole; standAt a.pos; holding [v] (truthy v))) :
    PT X a (fun σ H Q => ta σ H fun x H' => ∃ k, TruV X.K x H' k ∧ Q k H') := by
  intro pins s σ H Q I h
  refine isTrue_plain (thn (ha pins s σ H _ I h) fun v s1 hz_ => ?_) (he _)
  obtain ⟨x, H1, I1, r1, q1⟩ := hz_
  exact tru_ok pins s1 σ H1 x v Q I1 r1 q1

/-! ### strs and bytes -/
def PlainIxT (b : Expr) : Prop := ∀ o i, subscripted b false o i = operate [o, i] (getItem o i)
/-! ### scalar builtins, by CallR -/
theorem vals1 {x : V} {us : List Value} (r : Vals [x] us) : ∃ u, us = [u] ∧ RelV x u := by
  cases r with
  | cons r1 r2 => cases r2; exact ⟨_, rfl, r1⟩
theorem vals2 {x y : V} {us : List Value} (r : Vals [x, y] us) : ∃ u w', us = [u, w'] ∧ RelV x u ∧ RelV y w' := by
  cases r with
  | cons r1 r2 =>
    cases r2 with
    | cons r3 r4 => cases r4; exact ⟨_, _, rfl, r1, r3⟩
theorem call_max2 (hc : X.calm = true) : CallR X (.builtin "max") (fun xs H Q => ∃ i j, xs = [.int i, .int j] ∧ Q (.int (if j > i then j else i)) H) := by
  intro pins s σ H xs us Q I r h
  obtain ⟨i, j, rfl, q⟩ := h
  obtain ⟨u, w', rfl, ⟨t, rfl⟩, ⟨t', rfl⟩⟩ := vals2 r
  refine max_two_ints (I.ok.hd hc) fun h' tk k => ⟨_, H, I.kept k, ?_, q⟩
  by_cases hj : j > i
  · rw [if_pos hj, if_pos hj]; exact ⟨_, rfl⟩
  · rw [if_neg hj, if_neg hj]; exact ⟨_, rfl⟩
theorem call_min2 (hc : X.calm = true) : CallR X (.builtin "min") (fun xs H Q => ∃ i j, xs = [.int i, .int j] ∧ Q (.int (if j < i then j else i)) H) := by
  intro pins s σ H xs us Q I r h
  obtain ⟨i, j, rfl, q⟩ := h
  obtain ⟨u, w', rfl, ⟨t, rfl⟩, ⟨t', rfl⟩⟩ := vals2 r
  refine min_two_ints (I.ok.hd hc) fun h' tk k => ⟨_, H, I.kept k, ?_, q⟩
  by_cases hj : j < i
  · rw [if_pos hj, if_pos hj]; exact ⟨_, rfl⟩
  · rw [if_neg hj, if_neg hj]; exact ⟨_, rfl⟩
/-- len of a str, a bytes, a list, a tuple -/
def LenV (K : PySem.W.Frag) (x : V) (H : Hp) (n : Nat) : Prop :=
  match x with
  | .str y => y.length ≤ sizeLine ∧ n = y.length
  | .byt y => y.size ≤ sizeLine ∧ n = y.size
  | .ref p => (∃ xs, SqL K H p xs ∧ n = xs.length) ∨ ∃ xs, SqT K H p xs ∧ n = xs.length
  | _ => False
end
end L2

namespace L2
open PySem PySem.Spec PyProof.Rows

/-! ### an instance, its attributes a map -/
structure ObjM (h : Heap) (x dx C : Addr) (mA : Str → Option Value) : Prop where
  obj : h.get? x = some (PySem.W.instObj C dx)
  ns : h.Ns1 dx mA
  ne : dx ≠ x

theorem lookIn_ns {h : Heap} {dx : Addr} {mA : Str → Option Value} (n : h.Ns1 dx mA) : ∃ od, h.get? dx = some od ∧ ∀ name, PySem.W.lookIn name od = some (mA name) := by
  obtain ⟨o, es, ep, ho, hd, hk, _, hm⟩ := n
  refine ⟨o, ho, fun name => ?_⟩
  have e := hm name
  unfold nsFind findBy at e
  rw [← Array.find?_toList] at e
  unfold PySem.W.lookIn
  rw [hd]
  dsimp only
  split
  · rename_i y q
    rw [q] at e
    exact congrArg some e
  · rename_i q
    rw [q] at e
    have a : es.toList.any (·.refKey) = false := by
      rw [List.any_eq_false]
      intro y hy
      obtain ⟨z, t, hkey⟩ := hk y (Array.mem_toList_iff.mp hy)
      simp [DictEntry.refKey, hkey]
    have a' : ¬ es.toList.any (·.refKey) = true := by rw [a]; exact Bool.false_ne_true
    rw [if_neg a']
    exact congrArg some e

theorem ObjM.look {h : Heap} {x dx C : Addr} {mA : Str → Option Value} (I : ObjM h x dx C mA) : ∃ od, PySem.W.InstAt h x (PySem.W.instObj C dx) C (some od) ∧ ∀ name, PySem.W.lookIn name od = some (mA name) :=
  let ⟨od, ho, hl⟩ := lookIn_ns I.ns
  ⟨od, ⟨I.obj, rfl, rfl, ho⟩, hl⟩

section
variable {prog : Program} {w : World} {A : Around} {E : Value → Shared → Prop} {s : Shared} {K : PySem.W.Frag} {x dx C f : Addr} {mA : Str → Option Value} {name : Str} {v : Value}

theorem get_map {expr : Bool} {Q : Value → Shared → Prop} (X : K.In s.heap) (I : ObjM s.heap x dx C mA) (hg : PySem.W.plainGet K C name = true) (hh : PySem.W.hasDictIn K C = true)
    (ha : PySem.W.findIn K (.ref C) name = some none) (hv : mA name = some v) (hv' : PySem.W.handedIn v = true) (h : Q v { s with toks := s.toks + 1 }) :
    wpAny (model prog w) A (getAttr (.ref x) name expr) Q E s := by
  obtain ⟨od, J, hl⟩ := I.look
  exact PySem.W.get_value X J (PySem.W.plainGet_of hg).1 (PySem.W.findObj_own hh ha rfl (by rw [hl, hv])) hv' h

theorem get_meth {pl : Sem Bool} {Q : Value × List Value → Shared → Prop} (X : K.In s.heap) (I : ObjM s.heap x dx C mA) (hg : PySem.W.plainGet K C name = true)
    (hf : PySem.W.findIn K (.ref C) name = some (some (.ref f))) (ht : PySem.W.isFn K (.ref f) = true) (hv : mA name = none) (h : Q (.ref f, [.ref x]) s) :
    wpAny (model prog w) A (getMethod (.ref x) name pl) Q E s := by
  obtain ⟨od, J, hl⟩ := I.look
  exact PySem.W.method_fn X J (PySem.W.plainGet_of hg).1 (PySem.W.plainGet_of hg).2 hf (beq_iff_eq.mp ht) (by show (PySem.W.lookIn name od).map (·.isSome) = some false; rw [hl, hv]; rfl) h

theorem set_map {ns : List Str} {Q : Unit → Shared → Prop} (X : K.In s.heap) (I : ObjM s.heap x dx C mA)
    (hs : PySem.W.findIn K (.ref C) "__setattr__" = some (some (.builtin "object.__setattr__"))) (hp : PySem.W.plainOver K C = true) (ht : PySem.W.takerIn K C name = some none) (hh : PySem.W.hasDictIn K C = true)
    (hw : PySem.Within mA ns) (hsz : ns.length ≤ sizeLine)
    (h : ∀ h', ObjM h' x dx C (fun y => if y = name then some v else mA y) → Heap.SameBut dx s.heap h' → Q () { s with heap := h', toks := s.toks + 2 }) :
    wpAny (model prog w) A (setAttr (.ref x) name v) Q E s := by
  obtain ⟨od, J, hl⟩ := I.look
  refine PySem.W.set_plain X J hs (PySem.W.osa_open (s := { s with toks := s.toks + 1 }) (r := none) X J hp ht fun b => ?_)
  obtain ⟨cd, hc, hd'⟩ := PySem.W.any_some hh
  have hx : s.heap.get? x = some ⟨.ref C, some dx, .plain, #[]⟩ := I.obj
  refine wpAny_bind (wpAny_pure (wpAny_bind (wpAny_bind (wpAny_loadPart hx (wpAny_bind (PySem.W.Looks.here (s := { s with toks := s.toks + 1 }) (PySem.W.looks_clsIn X hc) ?_))))))
  rw [hd']
  refine wpAny_pure (a := some dx) (wpAny_bind (wpAny_pure (wpAny_bind ?_)))
  refine wpAny_nsSet1 (s := { s with toks := s.toks + 1 }) I.ns fun h' hn2 hs2 => ?_
  obtain ⟨oD, esD, epD, hoD, hdD, hcD⟩ := hn2.count (PySem.Within.cons name v hw)
  refine wpAny_bind (wpAny_lookBehind hoD (by rw [hdD]; exact pastItsLine_dict (Nat.le_trans hcD (by rw [List.length_cons]; omega))) ?_)
  exact wpAny_pure (h _ ⟨(hs2.2 _ (Ne.symm I.ne)).trans I.obj, hn2, I.ne⟩ hs2)

/-- C(..): the dict at the heap's end, the instance behind it; then its __init__ -/
theorem make_map {R : Result → Shared → Prop} {vs : List Value} {kw : List (Str × Value)} (X : K.In s.heap) (hm : PySem.W.makesIn K C = true)
    (hi : PySem.W.findIn K (.ref C) "__init__" = some (some (.ref f))) (hf : PySem.W.typeIn K (.ref f) = some (.type "function"))
    (h : codeAny (model prog w) (A.under (.builtin "type.__call__" ⟨.ref C :: vs, kw⟩)) (.call (.ref f) ⟨.ref (s.heap.objs.size + 1) :: vs, kw⟩) (PySem.W.InitBack (s.heap.objs.size + 1) R)
      { s with heap := (s.heap.push PySem.W.emptyDict).push (PySem.W.instObj C s.heap.objs.size) }) :
    codeAny (model prog w) A (.call (.ref C) ⟨vs, kw⟩) R s := by
  obtain ⟨hh, g, d, t, os⟩ := s
  exact PySem.W.make_core (PySem.W.makes_of X hm) (PySem.W.looks_findIn X hi) (fun self => PySem.W.bind_fn X self hf) (.inl rfl) h
end

/-! ### the attributes as a list of pairs -/
def putF (f : Str) (v : V) : List (Str × V) → List (Str × V)
  | [] => [(f, v)]
  | (g, x) :: r => if g = f then (g, v) :: r else (g, x) :: putF f v r
theorem lookup_putF (f g : Str) (v : V) : ∀ fs : List (Str × V), (putF f v fs).lookup g = if g = f then some v else fs.lookup g
  | [] => by
    show List.lookup g [(f, v)] = _
    by_cases h : g = f
    · have hb : (g == f) = true := beq_iff_eq.mpr h
      simp only [List.lookup, hb, if_pos h]
    · have hb : (g == f) = false := beq_eq_false_iff_ne.mpr h
      simp only [List.lookup, hb, if_neg h]
  | (k, x) :: r => by
    have ih := lookup_putF f g v r
    rw [show putF f v ((k, x) :: r) = (if k = f then (k, v) :: r else (k, x) :: putF f v r) from rfl]
    by_cases hk : k = f
    · rw [if_pos hk]
      by_cases h : g = k
      · have hb : (g == k) = true := beq_iff_eq.mpr h
        simp only [List.lookup, hb, if_pos (h.trans hk)]
      · have hb : (g == k) = false := beq_eq_false_iff_ne.mpr h
        simp only [List.lookup, hb, if_neg (fun e : g = f => h (e.trans hk.symm))]
    · rw [if_neg hk]
      by_cases h : g = k
      · have hb : (g == k) = true := beq_iff_eq.mpr h
        simp only [List.lookup, hb, if_neg (fun e : g = f => hk (h.symm.trans e))]
      · have hb : (g == k) = false := beq_eq_false_iff_ne.mpr h
        simp only [List.lookup, hb]
        exact ih
theorem keys_putF (f : Str) (v : V) : ∀ fs : List (Str × V), f ∈ (putF f v fs).map (·.1) ∧ ∀ g, g ∈ fs.map (·.1) → g ∈ (putF f v fs).map (·.1)
  | [] => ⟨by simp [putF], fun g h => by simp at h⟩
  | (k, x) :: r => by
    obtain ⟨i1, i2⟩ := keys_putF f v r
    rw [show putF f v ((k, x) :: r) = (if k = f then (k, v) :: r else (k, x) :: putF f v r) from rfl]
    by_cases hk : k = f
    · rw [if_pos hk]
      subst hk
      exact ⟨by simp, fun g h => by simpa using h⟩
    · rw [if_neg hk]
      refine ⟨?_, fun g h => ?_⟩
      · rw [List.map_cons]
        exact List.mem_cons_of_mem _ i1
      · rw [List.map_cons] at h ⊢
        rcases List.mem_cons.mp h with e | e
        · exact List.mem_cons.mpr (.inl e)
        · exact List.mem_cons_of_mem _ (i2 g e)
theorem length_putF (f : Str) (v : V) : ∀ fs : List (Str × V), (putF f v fs).length ≤ fs.length + 1
  | [] => by simp [putF]
  | (k, x) :: r => by
    have ih := length_putF f v r
    rw [show putF f v ((k, x) :: r) = (if k = f then (k, v) :: r else (k, x) :: putF f v r) from rfl]
    by_cases hk : k = f
    · rw [if_pos hk, List.length_cons, List.length_cons]; omega
    · rw [if_neg hk, List.length_cons, List.length_cons]; omega

theorem RelO.some_of {v : V} {o : Option Value} (r : RelO (some v) o) : ∃ u, o = some u ∧ RelV v u := by
  cases o with
  | none => exact (show False from r).elim
  | some u => exact ⟨u, rfl, r⟩
theorem RelO.none_of {o : Option Value} (r : RelO none o) : o = none := by
  cases o with
  | none => rfl
  | some u => exact (show False from r).elim
theorem handed_of {v : V} {u : Value} (r : RelV v u) : PySem.W.handedIn u = true := by
  cases v with
  | non => cases (show u = Value.none from r); rfl
  | bl b => cases (show u = Value.bool b from r); rfl
  | int i => obtain ⟨t, e⟩ := (show ∃ t, u = Value.int i t from r); cases e; rfl
  | str x => obtain ⟨t, e⟩ := (show ∃ t, u = Value.str x t from r); cases e; rfl
  | byt b => obtain ⟨t, e⟩ := (show ∃ t, u = Value.bytes b t from r); cases e; rfl
  | flt b => obtain ⟨t, e⟩ := (show ∃ t, u = Value.float b t from r); cases e; rfl
  | ref a => cases (show u = Value.ref a from r); rfl
  | ty n => cases (show u = Value.type n from r); rfl

section
variable {P : Program} {w : World} {H H' : Hp} {h h' : Heap} {a C dx : Addr} {fs fs' : List (Str × V)}
theorem ins_get (hok : HOk P w H h) (e : H a = some (.ins C dx fs)) : ∃ mA, ObjM h a dx C mA ∧ (∀ f, RelO (fs.lookup f) (mA f)) ∧ PySem.Within mA (fs.map (·.1)) ∧ fs.length ≤ 1000 ∧ H dx = some (.own a) := by
  obtain ⟨d, z, ne, ob, mA, n, r, q⟩ := (show ObjOk P w H h a (.ins C dx fs) from hok a _ e)
  exact ⟨mA, ⟨ob, n, ne⟩, r, q, z, d⟩
end

/-! ### what of the text a class must have -/
structure Cls (K : PySem.W.Frag) (C : Addr) : Prop where
  pg : PySem.W.plainGet K C Str.empty = true
  hd : PySem.W.hasDictIn K C = true
  po : PySem.W.plainOver K C = true
  sa : PySem.W.findIn K (.ref C) "__setattr__" = some (some (.builtin "object.__setattr__"))
theorem Cls.get {K : PySem.W.Frag} {C : Addr} (c : Cls K C) (f : Str) : PySem.W.plainGet K C f = true := c.pg
/-- no class of it has the name -/
def NoAttr (K : PySem.W.Frag) (C : Addr) (f : Str) : Prop := PySem.W.findIn K (.ref C) f = some none
theorem NoAttr.taker {K : PySem.W.Frag} {C : Addr} {f : Str} (n : NoAttr K C f) : PySem.W.takerIn K C f = some none := by
  unfold PySem.W.takerIn
  rw [show PySem.W.findIn K (.ref C) f = some none from n]
  rfl
/-- a constant of the class -/
structure Con (K : PySem.W.Frag) (C : Addr) (f : Str) (v : V) (u : Value) : Prop where
  at_ : PySem.W.findIn K (.ref C) f = some (some u)
  rel : RelV v u
  get : PySem.W.specialIn K u "__get__" = some none
  cp : PySem.W.copiedNames.contains f = false
/-- a method: a plain def of the class or of one above it -/
structure Meth (K : PySem.W.Frag) (C : Addr) (m : Str) (f : Addr) : Prop where
  at_ : PySem.W.findIn K (.ref C) m = some (some (.ref f))
  fn : PySem.W.isFn K (.ref f) = true
  kp : PySem.W.keepIn K (.ref f) = true

section
variable {X : Cx} {pins : List (Addr × Obj)} {σ : St} {H : Hp} {s : Shared} {a C dx : Addr} {fs : List (Str × V)} {f : Str} {v : V} {A : Around} {E : Value → Shared → Prop}

theorem getattr_ok {b : Bool} {Q : Value → Shared → Prop} (I : Inv X pins σ H s) (e : H a = some (.ins C dx fs)) (c : Cls X.K C) (n : NoAttr X.K C f) (l : fs.lookup f = some v)
    (h : ∀ u s', Inv X pins σ H s' → RelV v u → Q u s') : wpAny (model X.prog X.w) A (getAttr (.ref a) f b) Q E s := by
  obtain ⟨mA, O, r, _, _, _⟩ := ins_get I.hok e
  obtain ⟨u, hu, ru⟩ := RelO.some_of (v := v) (o := mA f) (by rw [← l]; exact r f)
  exact get_map I.kIn O (c.get f) c.hd n hu (handed_of ru) (h u _ (I.tok _) ru)

theorem getmeth_ok {m : Str} {g : Addr} {pl : Sem Bool} {Q : Value × List Value → Shared → Prop} (I : Inv X pins σ H s) (e : H a = some (.ins C dx fs)) (c : Cls X.K C) (k : Meth X.K C m g) (l : fs.lookup m = none)
    (h : Q (.ref g, [.ref a]) s) : wpAny (model X.prog X.w) A (getMethod (.ref a) m pl) Q E s := by
  obtain ⟨mA, O, r, _, _, _⟩ := ins_get I.hok e
  have hn : mA m = none := RelO.none_of (by rw [← l]; exact r m)
  exact get_meth I.kIn O (c.get m) k.at_ k.fn hn h

theorem setattr_ok {y : V} {u : Value} {Q : Unit → Shared → Prop} (I : Inv X pins σ H s) (e : H a = some (.ins C dx fs)) (c : Cls X.K C) (n : NoAttr X.K C f) (hl : fs.length < 1000) (ry : RelV y u)
    (h : ∀ s', Inv X pins σ (upd H a (.ins C dx (putF f y fs))) s' → Q () s') : wpAny (model X.prog X.w) A (setAttr (.ref a) f u) Q E s := by
  obtain ⟨mA, O, r, wi, _, ho⟩ := ins_get I.hok e
  have hz : (fs.map (·.1)).length ≤ sizeLine := by rw [List.length_map, sizeLine_eq]; omega
  refine set_map I.kIn O c.sa c.po n.taker c.hd wi hz fun h' O' sb => h _ ?_
  have hd : ∃ o, h'.get? dx = some o := let ⟨o, _, _, e', _⟩ := O'.ns; ⟨o, e'⟩
  refine I.write (x := a) (e := dx) (by rw [e]; exact True.intro) (.inr ho) (fun b q hb z => (sb.2 b hb).trans z) hd ?_
  refine ⟨by rw [upd_ne O.ne]; exact ho, ?_, O.ne, O'.obj, _, O'.ns, fun g => ?_, fun g hg => ?_⟩
  · have := length_putF f y fs; omega
  · show RelO ((putF f y fs).lookup g) (if g = f then some u else mA g)
    rw [lookup_putF]
    by_cases q : g = f
    · rw [if_pos q, if_pos q]; exact ry
    · rw [if_neg q, if_neg q]; exact r g
  · by_cases q : g = f
    · rw [q]; exact (keys_putF f y fs).1
    · refine (keys_putF f y fs).2 g (wi g fun z => hg ?_)
      show (if g = f then some u else mA g) = none
      rw [if_neg q]; exact z

/-- a new instance, tracked, without attributes -/
theorem Inv.made (I : Inv X pins σ H s) : Inv X pins σ (upd (upd H s.heap.objs.size (.own (s.heap.objs.size + 1))) (s.heap.objs.size + 1) (.ins C s.heap.objs.size []))
    { s with heap := (s.heap.push PySem.W.emptyDict).push (PySem.W.instObj C s.heap.objs.size) } := by
  have e1 : (s.heap.push PySem.W.emptyDict).get? s.heap.objs.size = some PySem.W.emptyDict := Heap.get?_push_size s.heap rfl
  have e2 : ((s.heap.push PySem.W.emptyDict).push (PySem.W.instObj C s.heap.objs.size)).get? (s.heap.objs.size + 1) = some (PySem.W.instObj C s.heap.objs.size) := by
    have := Heap.get?_push_size (s.heap.push PySem.W.emptyDict) (o := PySem.W.instObj C s.heap.objs.size) rfl
    rwa [Heap.size_push] at this
  have e3 : (s.heap.push PySem.W.emptyDict).Ns s.heap.objs.size (fun _ => none) := ⟨PySem.W.emptyDict, #[], _, e1, rfl, (fun e he => absurd he (by simp)), fun _ => rfl⟩
  have I1 := I.laid (a := s.heap.objs.size) (o := .own (s.heap.objs.size + 1)) (h' := s.heap.push PySem.W.emptyDict) (t' := s.toks) (fun b u q => Heap.get?_push_of_some _ q) (Nat.le_refl _) ⟨_, e1⟩
  refine I1.laid (a := s.heap.objs.size + 1) (o := .ins C s.heap.objs.size []) (t' := s.toks) (fun b u q => Heap.get?_push_of_some _ q) (Nat.le_of_eq (Heap.size_push _ _)) ?_
  have ne : s.heap.objs.size ≠ s.heap.objs.size + 1 := Nat.ne_of_lt (Nat.lt_succ_self _)
  refine ⟨by rw [upd_ne ne, upd_same], Nat.zero_le _, ne, e2, fun _ => none, (Heap.Ns1.of_empty e3).at fun o q => Heap.get?_push_of_some _ q, fun _ => True.intro, fun y hy => absurd rfl hy⟩

/-- e.f where nothing but the object is asked: through attributeBase (super) and the last hold -/
theorem attr_of {prog : Program} {w : World} {env : Env} {e : Expr} {f : Str} {pos : Pos} {s : Shared} {Q : Value → Shared → Prop} (hb : attributeBase e f env (eval e env) = eval e env)
    (h : wpAny (model prog w) A (eval e env) (fun o s₁ => wpAny (model prog w) A (getAttr o f true) Q E s₁) E s) : wpAny (model prog w) A (eval (.Attribute e f pos) env) Q E s :=
  Attribute_any_ h (by rw [arm_eval_Attribute, hb])
end

/-! ### readings and rules -/
/-- e.f, an attribute of the instance -/
def tFld (K : PySem.W.Frag) (ta : TE) (f : Str) : TE := fun σ H Q => ta σ H fun x H1 => ∃ a C dx fs v, x = .ref a ∧ H1 a = some (.ins C dx fs) ∧ Cls K C ∧ NoAttr K C f ∧ fs.lookup f = some v ∧ Q v H1
/-- e.f, a constant of the class -/
def tCon (K : PySem.W.Frag) (ta : TE) (f : Str) : TE := fun σ H Q => ta σ H fun x H1 => ∃ a C dx fs v u, x = .ref a ∧ H1 a = some (.ins C dx fs) ∧ Cls K C ∧ Con K C f v u ∧ fs.lookup f = none ∧ Q v H1
/-- e.f = value -/
def sFld (K : PySem.W.Frag) (ta tv : TE) (f : Str) : TS := fun D σ H => tv σ H fun y H1 => ta σ H1 fun x H2 => ∃ a C dx fs, x = .ref a ∧ H2 a = some (.ins C dx fs) ∧ Cls K C ∧ NoAttr K C f ∧ fs.length < 1000 ∧
  D.nx σ (upd H2 a (.ins C dx (putF f y fs)))
/-- an augmented operator on two values -/
def InOp (X : Cx) (op : Operator) (rd : V → V → Hp → VK → Prop) : Prop :=
  ∀ (pins : List (Addr × Obj)) (s : Shared) (σ : St) (H : Hp) (x y : V) (u v : Value) (Q : VK), Inv X pins σ H s → RelV x u → RelV y v → rd x y H Q → wpAny (model X.prog X.w) X.A (inplaceOp op u v) (EP X pins σ Q) X.xe s
/-- e.f op= value -/
def sFldAug (K : PySem.W.Frag) (ta tv : TE) (rd : V → V → Hp → VK → Prop) (f : Str) : TS := fun D σ H => ta σ H fun x H1 => ∃ a C dx fs v, x = .ref a ∧ H1 a = some (.ins C dx fs) ∧ Cls K C ∧ NoAttr K C f ∧ fs.lookup f = some v ∧
  tv σ H1 fun y H2 => rd v y H2 fun z H3 => ∃ dx' fs', H3 a = some (.ins C dx' fs') ∧ fs'.length < 1000 ∧ D.nx σ (upd H3 a (.ins C dx' (putF f z fs')))

section
variable {X : Cx} {o e value : Expr} {f : Str} {pos pos' tpos : Pos} {ta tv : TE}
theorem pe_fld (he : PE X e ta) (hb : attributeBase e f X.env (eval e X.env) = eval e X.env) : PE X (.Attribute e f pos) (tFld X.K ta f) := by
  intro pins s σ H Q I h
  refine attr_of hb (thn (he pins s σ H _ I h) fun u s1 hz_ => ?_)
  obtain ⟨x, H1, I1, rx, a, C, dx, fs, v, ex, ea, c, n, l, q⟩ := hz_
  subst ex
  obtain rfl : u = Value.ref a := rx
  exact getattr_ok I1 ea c n l fun u' s2 I2 ru => ⟨v, H1, I2, ru, q⟩
theorem ps_fld (ha : PE X o ta) (hv : PE X value tv) (hs : swapsWith value (some (.Attribute o f pos')) pos.line X.env = pure false) : PS X (.Assign [.Attribute o f pos'] value pos) (sFld X.K ta tv f) := by
  intro pins s σ H D I h
  refine plainObj_wpAny_Assign_Attribute (thn (hv pins s σ H _ I h) fun u s1 hz_ => ?_) hs
  obtain ⟨y, H1, I1, ry, q⟩ := hz_
  refine thn (ha pins s1 σ H1 _ I1 q) fun ov s2 hz_ => ?_
  obtain ⟨x, H2, I2, rx, a, C, dx, fs, ex, ea, c, n, l, q2⟩ := hz_
  subst ex
  obtain rfl : ov = Value.ref a := rx
  exact setattr_ok I2 ea c n l ry fun s3 I3 => ⟨σ, _, I3, q2⟩
def rAdd : V → V → Hp → VK → Prop := fun x y H Q => ∃ i j, x = .int i ∧ y = .int j ∧ Q (.int (i + j)) H
def rSub : V → V → Hp → VK → Prop := fun x y H Q => ∃ i j, x = .int i ∧ y = .int j ∧ Q (.int (i - j)) H
/-- what is between an instance and its method: the tree of a method call -/
theorem methcall_of {pl : Sem Bool} {m : Str} {apos : Pos} {args : List Expr} {pins : List (Addr × Obj)} {s : Shared} {σ : St} {H : Hp} {Q : Value → Shared → Prop} {te : TE} (he : PE X e te) (I : Inv X pins σ H s)
    (h : te σ H fun x H1 => ∃ a C dx fs g, x = .ref a ∧ H1 a = some (.ins C dx fs) ∧ Cls X.K C ∧ Meth X.K C m g ∧ fs.lookup m = none ∧
      ∀ s1, Inv X pins σ H1 s1 → wpAny (model X.prog X.w) X.A (callWith pos (.ref g) [.ref a] (backTo pos (starEach args X.env)) (backToKw pos (keywordEach [] X.env))) Q X.xe s1)
    (ht : eval (.Call (.Attribute e m apos) args [] pos) X.env = (do
      let ov ← eval e X.env
      standAt apos.atName
      let (f, first) ← holding [ov] (getMethod ov m pl)
      callWith pos f first (backTo pos (starEach args X.env)) (backToKw pos (keywordEach [] X.env)))) :
    wpAny (model X.prog X.w) X.A (eval (.Call (.Attribute e m apos) args [] pos) X.env) Q X.xe s := by
  refine PySem.W.methodCall_KW (pl := pl) (thn (he pins s σ H _ I h) fun u s1 hz_ => ?_) ht
  obtain ⟨x, H1, I1, rx, a, C, dx, fs, g, ex, ea, c, k, l, q⟩ := hz_
  subst ex
  obtain rfl : u = Value.ref a := rx
  exact getmeth_ok I1 ea c k l (q s1 I1)
end

/-! ### isinstance -/
section
variable {X : Cx} {pins : List (Addr × Obj)} {σ : St} {H : Hp} {s : Shared} {A : Around} {E : Value → Shared → Prop} {Q : Value → Shared → Prop} {c : Value} {b : Bool}
/-- the type of a value, as the fragment's deciders take it; for an instance its class -/
inductive TyOf (K : PySem.W.Frag) (H : Hp) : V → Value → Prop where
  | non : TyOf K H .non (.type "NoneType")
  | bl (x : Bool) : TyOf K H (.bl x) (.type "bool")
  | int (i : Int) : TyOf K H (.int i) (.type "int")
  | str (x : Str) : TyOf K H (.str x) (.type "str")
  | flt (x : UInt64) : TyOf K H (.flt x) (.type "float")
  | lst {a : Addr} {xs : List V} (e : H a = some (.lst xs)) : TyOf K H (.ref a) (.type "list")
  | frz {a : Addr} {o : Obj} {xs : List V} (e : H a = some (.frz o (.lst xs))) : TyOf K H (.ref a) (.type "list")
  | tup {a : Addr} {xs : List V} (e : H a = some (.tup xs)) : TyOf K H (.ref a) (.type "tuple")
  | dK {a : Addr} {kvs : List (Key × V)} (e : H a = some (.dK kvs)) : TyOf K H (.ref a) (.type "dict")
  | dT {a : Addr} {kvs : List (List Key × V)} (e : H a = some (.dT kvs)) : TyOf K H (.ref a) (.type "dict")
  | ins {a C dx : Addr} {fs : List (Str × V)} (e : H a = some (.ins C dx fs)) (cl : Cls K C) (ha : PySem.W.findIn K (.ref C) "__class__" = some (some (.builtin "object.__class__")))
      (hn : PySem.W.specialIn K (.builtin "object.__class__") "__get__" = some (some (.builtin "getset_descriptor.__get__"))) (htk : PySem.W.takesIn K (.builtin "object.__class__") = some true)
      (hm : PySem.W.mroIn K C (.type "object") = some true) : TyOf K H (.ref a) (.ref C)
/-- isinstance(x, c) for one class c, a built-in or an own one: kitOne's answer -/
theorem isinst_ok {x : V} {u t : Value} (I : Inv X pins σ H s) (rx : RelV x u) (ty : TyOf X.K H x t) (e : PySem.W.kitOne X.K t c = some b) (h : ∀ tk, Q (.bool b) { s with toks := tk }) :
    wpAny (model X.prog X.w) A (call (.builtin "isinstance") [u, c]) Q E s := by
  cases ty with
  | non => cases (show u = Value.none from rx); exact PySem.W.kia_one PySem.W.kitx_none I.kIn True.intro e (fun z => nomatch z) h
  | bl y => cases (show u = Value.bool y from rx); exact PySem.W.kia_one PySem.W.kitx_bool I.kIn True.intro e (fun z => nomatch z) h
  | int i => obtain ⟨t, q⟩ := (show ∃ t, u = Value.int i t from rx); cases q; exact PySem.W.kia_one PySem.W.kitx_int I.kIn True.intro e (fun z => nomatch z) h
  | str y => obtain ⟨t, q⟩ := (show ∃ t, u = Value.str y t from rx); cases q; exact PySem.W.kia_one PySem.W.kitx_str I.kIn True.intro e (fun z => nomatch z) h
  | flt y => obtain ⟨t, q⟩ := (show ∃ t, u = Value.float y t from rx); cases q; exact PySem.W.kia_one PySem.W.kitx_float I.kIn True.intro e (fun z => nomatch z) h
  | @lst a xs ea =>
    cases (show u = Value.ref a from rx)
    obtain ⟨_, _, n, _, h1⟩ := (show ObjOk X.prog X.w H s.heap a (.lst xs) from I.hok a _ ea)
    exact PySem.W.kia_one PySem.W.kitx_list I.kIn ⟨_, h1, rfl⟩ e (fun z => nomatch z) h
  | @frz a ob xs ea =>
    cases (show u = Value.ref a from rx)
    obtain ⟨_, _, _, n, _, h1⟩ := (show ObjOk X.prog X.w H s.heap a (.frz ob (.lst xs)) from I.hok a _ ea)
    exact PySem.W.kia_one PySem.W.kitx_list I.kIn ⟨_, h1, rfl⟩ e (fun z => nomatch z) h
  | @tup a xs ea =>
    cases (show u = Value.ref a from rx)
    obtain ⟨_, _, _, p⟩ := (show ObjOk X.prog X.w H s.heap a (.tup xs) from I.hok a _ ea)
    obtain ⟨o, h1, h2, _⟩ := p
    exact PySem.W.kia_one PySem.W.kitx_tuple I.kIn ⟨o, h1, h2⟩ e (fun z => nomatch z) h
  | @dK a kvs ea =>
    cases (show u = Value.ref a from rx)
    obtain ⟨_, _, vs, _, p⟩ := (show ObjOk X.prog X.w H s.heap a (.dK kvs) from I.hok a _ ea)
    obtain ⟨o, es, ep, h1, h2, _⟩ := p
    exact PySem.W.kia_one PySem.W.kitx_dict I.kIn ⟨o, h1, h2.1⟩ e (fun z => nomatch z) h
  | @dT a kvs ea =>
    cases (show u = Value.ref a from rx)
    obtain ⟨_, _, xs, _, o, es, ep, h1, h2, _⟩ := (show ObjOk X.prog X.w H s.heap a (.dT kvs) from I.hok a _ ea)
    exact PySem.W.kia_one PySem.W.kitx_dict I.kIn ⟨o, h1, h2.1⟩ e (fun z => nomatch z) h
  | @ins a C dx fs ea cl ha hn htk hm =>
    cases (show u = Value.ref a from rx)
    obtain ⟨mA, O, _⟩ := ins_get I.hok ea
    obtain ⟨od, J, _⟩ := O.look
    exact PySem.W.kia_one (PySem.W.kitx_own (cl.get _) cl.hd ha hn htk hm) I.kIn J e (fun z => nomatch z) h
end
end L2

namespace L2
open PySem PySem.Spec PyProof.Rows

/-! ### room -/
structure Room (k : Nat) (A : Around) : Prop where
  hd : A.handled = none
  dp : A.depth + 3 * k + 5 < recursionLimit
  un : A.units + 16 * k + 200 < cLine
theorem Room.mono {j k : Nat} {A : Around} (r : Room k A) (h : j ≤ k) : Room j A := ⟨r.hd, by have := r.dp; omega, by have := r.un; omega⟩
theorem Room.deeper {k : Nat} {A : Around} (r : Room (k + 1) A) (env : Env) : Room k (A.deeper env) :=
  ⟨r.hd, by have := r.dp; show A.depth + 1 + 3 * k + 5 < _; omega, by have := r.un; show A.units + 3 + 16 * k + 200 < _; omega⟩
theorem Room.in1 {k : Nat} {A : Around} (r : Room (k + 1) A) : Room k A.in1 :=
  ⟨r.hd, by have := r.dp; show A.depth + 3 * k + 5 < _; omega, by have := r.un; show A.units + 1 + 16 * k + 200 < _; omega⟩
theorem make_depth {A : Around} {C : Addr} {us : List Value} {kw : List (Str × Value)} : (A.under (.builtin "type.__call__" ⟨.ref C :: us, kw⟩)).depth = A.depth + 1 := by
  first | rfl | simp [Around.under, Code.weight, Code.isCreation, Code.isGuard, Code.isCaller, Code.frames, Code.isFrame, guardIds]
theorem make_units {A : Around} {C : Addr} {us : List Value} {kw : List (Str × Value)} : (A.under (.builtin "type.__call__" ⟨.ref C :: us, kw⟩)).units = A.units + 1 := by
  first | rfl | simp [Around.under, Code.cUnits, Code.frames, Code.isFrame]
theorem Room.make {k : Nat} {A : Around} (r : Room (k + 1) A) (C : Addr) (us : List Value) (kw : List (Str × Value)) : Room k (A.under (.builtin "type.__call__" ⟨.ref C :: us, kw⟩)) :=
  ⟨r.hd, by have := r.dp; rw [make_depth]; omega, by have := r.un; rw [make_units]; omega⟩
theorem Room.depth {k : Nat} {A : Around} (r : Room k A) : A.depth < recursionLimit := by have := r.dp; omega
theorem Room.units {k : Nat} {A : Around} (r : Room k A) : A.units + 64 < cLine := by have := r.un; omega
/-! ### argument lists and displays -/
def tNil : TA := fun _ H Q => Q [] H
def tCons (ta : TE) (tr : TA) : TA := fun σ H Q => ta σ H fun x H1 => tr σ H1 fun xs H2 => Q (x :: xs) H2
section
variable {X : Cx} {e : Expr} {es : List Expr} {te : TE} {t : TA} {pos : Pos}
theorem pa_nil : PA X [] tNil := fun _ _ _ _ H Q I h => Calls.spliced_nil ⟨[], H, I, .nil, h⟩
theorem pa_cons (ha : PE X e te) (hr : PA X es t) (hs : starEach (e :: es) X.env = (false, eval e X.env) :: starEach es X.env := by rfl) : PA X (e :: es) (tCons te t) := by
  intro pos pins s σ H Q I h
  rw [hs]
  show wpAny _ _ (spliced ((false, eval e X.env) :: backTo pos (starEach es X.env))) _ _ s
  refine Calls.spliced_cons (thn (ha pins s σ H _ I h) fun u s1 hz_ => ?_)
  obtain ⟨x, H1, I1, r1, q1⟩ := hz_
  refine thn (hr pos pins s1 σ H1 _ I1 q1) fun us s2 hz_ => ?_
  obtain ⟨xs, H2, I2, r2, q2⟩ := hz_
  exact ⟨x :: xs, H2, I2, .cons r1 r2, q2⟩

/-- a tuple, a list of written items -/
def tTup (t : TA) : TE := fun σ H Q => t σ H fun xs H1 => xs.length ≤ sizeLine ∧ ∀ p, H1 p = none → Q (.ref p) (upd H1 p (.tup xs))
def tLst (t : TA) : TE := fun σ H Q => t σ H fun xs H1 => xs.length ≤ sizeLine ∧ ∀ p, H1 p = none → Q (.ref p) (upd H1 p (.lst xs))
theorem pe_tup {x1} (h : PA X es t) : PE X (.Tuple es x1 pos) (tTup t) := by
  intro pins s σ H Q I hq
  refine wpAny_Tuple_spliced (thn (h pos pins s σ H _ I hq) fun us s1 hz_ => ?_)
  obtain ⟨xs, H1, I1, r, z, q⟩ := hz_
  refine ⟨by rw [← r.length]; exact z, ?_⟩
  have hf : H1 s1.heap.objs.size = none := I1.hok.fresh (Nat.le_refl _)
  refine ⟨.ref s1.heap.objs.size, upd H1 s1.heap.objs.size (.tup xs), I1.laid (t' := s1.toks) (fun b u e => Heap.get?_push_of_some _ e) (Nat.le_refl _) ?_, rfl, q _ hf⟩
  exact ⟨z, us, r, ⟨_, Heap.get?_push_size _ rfl, rfl, _, rfl⟩⟩
theorem pe_lst (h : PA X es t) : PE X (.List es pos) (tLst t) := by
  intro pins s σ H Q I hq
  refine wpAny_List_spliced (thn (h pos pins s σ H _ I hq) fun us s1 hz_ => ?_)
  obtain ⟨xs, H1, I1, r, z, q⟩ := hz_
  refine ⟨by rw [← r.length]; exact z, ?_⟩
  have hf : H1 s1.heap.objs.size = none := I1.hok.fresh (Nat.le_refl _)
  refine ⟨.ref s1.heap.objs.size, upd H1 s1.heap.objs.size (.lst xs), I1.laid (t' := s1.toks) (fun b u e => Heap.get?_push_of_some _ e) (Nat.le_refl _) ?_, rfl, q _ hf⟩
  exact ⟨z, us, 0, r, Heap.get?_push_size _ rfl⟩
end

/-! ### what a def promises -/
/-- a def's promise: the bound arguments in the parameters' order, the heap, the wanted end, the wanted exception -/
abbrev Sp := List V → Hp → VK → XK → Prop
/-- how an exception lies behind a call (file 08 gives it): the callers' frames, abstract heap and state ahead of the call, the wish, the exception, the state -/
abbrev CXT := List Env → Hp → Shared → XK → Value → Shared → Prop

/-- the state at a call -/
structure Env0 (P : Program) (w : World) (K : PySem.W.Frag) (mg : Str → Option Value) (base : Heap) (A : Around) (outer : List Env) (s : Shared) (H : Hp) : Prop where
  frames : A.frames = some outer
  mod : Mod K mg base
  bs : ∀ b o, base.get? b = some o → s.heap.get? b = some o ∧ H b = none
  bsz : base.objs.size ≤ s.heap.objs.size
  funs : s.heap.FunFrames base outer
  frf : ∀ b ∈ frs outer, H b = none
  hok : HOk P w H s.heap
  bare : AllBare s.gens
/-- a call's end -/
def CE (outer : List Env) (P : Program) (w : World) (H : Hp) (s : Shared) (Q : VK) (u : Value) (s' : Shared) : Prop :=
  ∃ v H', s'.os = s.os ∧ AllBare s'.gens ∧ Un (frs outer) [] H H' s.heap s'.heap ∧ HOk P w H' s'.heap ∧ RelV v u ∧ Q v H'
def CR (CX : CXT) (outer : List Env) (P : Program) (w : World) (H : Hp) (s : Shared) (Q : VK) (E : XK) (r : Result) (s' : Shared) : Prop :=
  match r with
  | .ok (.ret u) => CE outer P w H s Q u s'
  | .ok _ => False
  | .error e => CX outer H s E e s'
structure FnOk (P : Program) (w : World) (K : PySem.W.Frag) (mg : Str → Option Value) (base : Heap) (CX : CXT) (k : Nat) (f : Addr) (fd : FuncData) (ps : List Str) (sp : Sp) : Prop where
  len : ∀ vs H Q E, sp vs H Q E → vs.length = ps.length
  run : ∀ (A : Around) (outer : List Env) (s : Shared) (H : Hp) (args : Args) (us : List Value) (vs : List V) (Q : VK) (E : XK), Room k A → Env0 P w K mg base A outer s H → BindsTo s fd args (ps.zip us) → Vals vs us → sp vs H Q E →
    codeAny (model P w) A (.call (.ref f) args) (CR CX outer P w H s Q E) s
theorem Env0.make {P : Program} {w : World} {K : PySem.W.Frag} {mg : Str → Option Value} {base : Heap} {A : Around} {outer : List Env} {s : Shared} {H : Hp} (e : Env0 P w K mg base A outer s H) (C : Addr) (us : List Value) (kw : List (Str × Value)) :
    Env0 P w K mg base (A.under (.builtin "type.__call__" ⟨.ref C :: us, kw⟩)) outer s H := ⟨by first | exact e.frames | (simpa [Around.under, Code.envs, Code.isFrame, pushEnvs] using e.frames), e.mod, e.bs, e.bsz, e.funs, e.frf, e.hok, e.bare⟩
section
variable {X : Cx} {pins : List (Addr × Obj)} {σ : St} {H : Hp} {s s' : Shared}
/-- from a body: what a callee wants -/
theorem Inv.env0 (I : Inv X pins σ H s) : Env0 X.prog X.w X.K X.mg X.base X.A X.stack s H :=
  ⟨I.ok.frames, I.ok.mod, I.bs, Nat.le_trans I.ok.bsz I.sz, I.stack, I.stkFree, I.hok, I.bare⟩
/-- behind a call -/
theorem Inv.after {Q : VK} {u : Value} (I : Inv X pins σ H s) (h : CE X.stack X.prog X.w H s Q u s') : EP X pins σ Q u s' := by
  obtain ⟨v, H', os, bare, un, hok, r, q⟩ := h
  obtain ⟨hh, g, d, t, os'⟩ := s'
  obtain rfl : os' = s.os := os
  exact ⟨v, H', I.call (h' := hh) (g' := g) (d' := d) (t' := t) (ch := []) un hok bare (fun b z => absurd z (by simp)), r, q⟩
end

/-! ### calls -/
/-- f(..): the written arguments, then the defaults dvs; E: what is wanted of an exception -/
def tCall (sp : Sp) (dvs : List V) (E : XK) (t : TA) : TE := fun σ H Q => t σ H fun vs H1 => sp (vs ++ dvs) H1 Q E
/-- o.m(..) of an instance of the class at C -/
def tMeth (C : Addr) (m : Str) (sp : Sp) (dvs : List V) (E : XK) (ta : TE) (t : TA) : TE := fun σ H Q => ta σ H fun x H1 => ∃ a dx fs, x = .ref a ∧ H1 a = some (.ins C dx fs) ∧ fs.lookup m = none ∧
  t σ H1 fun vs H2 => sp (x :: (vs ++ dvs)) H2 Q E
/-- C(..): a new instance and its dict, then __init__ -/
def tMake (C : Addr) (sp : Sp) (dvs : List V) (E : XK) (t : TA) : TE := fun σ H Q => t σ H fun vs H1 => ∀ x dx, H1 x = none → H1 dx = none → dx ≠ x →
  sp (.ref x :: (vs ++ dvs)) (upd (upd H1 dx (.own x)) x (.ins C dx [])) (fun v H2 => v = .non ∧ Q (.ref x) H2) E

/-- how the parameters are bound: us the positional arguments, kw the keywords' values by name, ds the defaults that fill up -/
def Binds (K : PySem.W.Frag) (fd : FuncData) (ps : List Str) (ds : List Value) : Prop :=
  ∀ (s : Shared) (us : List Value), K.In s.heap → (us ++ ds).length = ps.length → BindsTo s fd ⟨us, []⟩ (ps.zip (us ++ ds))
/-- every parameter is given -/
theorem Binds.all {K : PySem.W.Frag} {fd : FuncData} {ps : List Str} (h : ∀ us : List Value, us.length = ps.length → bindArgs fd ⟨us, []⟩ = pure (ps.zip us)) : Binds K fd ps [] := fun s us _ hl => by
  rw [List.append_nil] at hl ⊢
  exact .of_eq (h us hl)

/-- an exception of a callee reaches what this body wants of exceptions -/
def Passes (CX : CXT) (X : Cx) (E : XK) : Prop := ∀ (pins : List (Addr × Obj)) (σ : St) (H : Hp) (s : Shared) (e : Value) (s' : Shared), Inv X pins σ H s → CX X.stack H s E e s' → X.xe e s'

section
variable {X : Cx} {CX : CXT} {k : Nat} {f C : Addr} {fd : FuncData} {ps : List Str} {sp : Sp} {dvs : List V} {ds : List Value} {E : XK} {x m : Str} {p pos apos : Pos} {e o : Expr} {es : List Expr} {ta : TE} {t : TA}

/-- the callee runs -/
theorem run_fn {pins : List (Addr × Obj)} {σ : St} {H : Hp} {s : Shared} {Q : VK} {us : List Value} {vs : List V} (F : FnOk X.prog X.w X.K X.mg X.base CX k f fd ps sp) (hr : Room k X.A) (hb : Binds X.K fd ps ds) (hd : Vals dvs ds) (hx : Passes CX X E)
    (I : Inv X pins σ H s) (r : Vals vs us) (h : sp (vs ++ dvs) H Q E) : wpAny (model X.prog X.w) X.A (call (.ref f) us) (EP X pins σ Q) X.xe s := by
  have r2 : Vals (vs ++ dvs) (us ++ ds) := r.append hd
  have hl : (us ++ ds).length = ps.length := by rw [← r2.length]; exact F.len _ _ _ _ h
  refine wpAny_call (codeAny_mono (F.run X.A X.stack s H ⟨us, []⟩ (us ++ ds) (vs ++ dvs) Q E hr I.env0 (hb s us I.kIn hl) r2 h) fun r s' hq => ?_)
  cases r with
  | error e => exact hx pins σ H s e s' I hq
  | ok fl =>
    cases fl with
    | ret u => exact I.after hq
    | next => exact False.elim hq
    | brk => exact False.elim hq
    | cont => exact False.elim hq

theorem pe_call (F : FnOk X.prog X.w X.K X.mg X.base CX k f fd ps sp) (hr : Room k X.A) (hg : Gl X x) (hm : X.mg x = some (.ref f)) (hk : PySem.W.keepIn X.K (.ref f) = true) (hb : Binds X.K fd ps ds) (hd : Vals dvs ds) (hx : Passes CX X E)
    (ha : PA X (e :: es) t) (hdb : (x == ("__debug__" : Str)) = false := by decide) (he : starEach (e :: es) X.env = (false, eval e X.env) :: starEach es X.env := by rfl) (hpl : (backTo pos (starEach es X.env)).any (·.1) = false := by rfl) :
    PE X (.Call (.Name x p) (e :: es) [] pos) (tCall sp dvs E t) := by
  intro pins s σ H Q I h
  refine wpAny_Call_Name_kw (ld_glob I hg hm ?_ hdb)
  refine PySem.W.callWith_K (h₀ := X.base) I.ok.mod.kin hk (thn (ha pos pins s σ H _ I h) fun us s1 hz_ => ?_) he hpl
  obtain ⟨vs, H1, I1, r, q⟩ := hz_
  refine ⟨I1.kIn, ?_⟩
  exact run_fn F hr hb hd hx I1 r q
/-- o.m(e, ..) -/
theorem pe_meth {pl : Sem Bool} (he : PE X o ta) (c : Cls X.K C) (hm : Meth X.K C m f) (F : FnOk X.prog X.w X.K X.mg X.base CX k f fd ps sp) (hr : Room k X.A) (hb : Binds X.K fd ps ds) (hd : Vals dvs ds) (hx : Passes CX X E) (ha : PA X (e :: es) t)
    (hst : starEach (e :: es) X.env = (false, eval e X.env) :: starEach es X.env := by rfl) (hpl : (backTo pos (starEach es X.env)).any (·.1) = false := by rfl)
    (ht : eval (.Call (.Attribute o m apos) (e :: es) [] pos) X.env = (do
      let ov ← eval o X.env
      standAt apos.atName
      let (f, first) ← holding [ov] (getMethod ov m pl)
      callWith pos f first (backTo pos (starEach (e :: es) X.env)) (backToKw pos (keywordEach [] X.env))) := by rfl) :
    PE X (.Call (.Attribute o m apos) (e :: es) [] pos) (tMeth C m sp dvs E ta t) := by
  intro pins s σ H Q I h
  refine PySem.W.methodCall_KW (pl := pl) (thn (he pins s σ H _ I h) fun u s1 hz_ => ?_) ht
  obtain ⟨x, H1, I1, rx, a, dx, fs, ex, ea, l, q⟩ := hz_
  subst ex
  obtain rfl : u = Value.ref a := rx
  refine getmeth_ok I1 ea c hm l ?_
  refine PySem.W.callWith_K (first := [.ref a]) (h₀ := X.base) I.ok.mod.kin hm.kp (thn (ha pos pins s1 σ H1 _ I1 q) fun us s2 hz_ => ?_) hst hpl
  obtain ⟨vs, H2, I2, r, q2⟩ := hz_
  refine ⟨I2.kIn, ?_⟩
  exact run_fn (us := .ref a :: us) (vs := .ref a :: vs) F hr hb hd hx I2 (.cons rfl r) q2
/-- o.m() -/
theorem pe_meth0 {pl : Sem Bool} (he : PE X o ta) (c : Cls X.K C) (hm : Meth X.K C m f) (F : FnOk X.prog X.w X.K X.mg X.base CX k f fd ps sp) (hr : Room k X.A) (hb : Binds X.K fd ps ds) (hd : Vals dvs ds) (hx : Passes CX X E)
    (ht : eval (.Call (.Attribute o m apos) [] [] pos) X.env = (do
      let ov ← eval o X.env
      standAt apos.atName
      let (f, first) ← holding [ov] (getMethod ov m pl)
      callWith pos f first (backTo pos (starEach [] X.env)) (backToKw pos (keywordEach [] X.env))) := by rfl) :
    PE X (.Call (.Attribute o m apos) [] [] pos) (tMeth C m sp dvs E ta tNil) := by
  intro pins s σ H Q I h
  refine PySem.W.methodCall_KW (pl := pl) (thn (he pins s σ H _ I h) fun u s1 hz_ => ?_) ht
  obtain ⟨x, H1, I1, rx, a, dx, fs, ex, ea, l, q⟩ := hz_
  subst ex
  obtain rfl : u = Value.ref a := rx
  refine getmeth_ok I1 ea c hm l ?_
  exact PySem.W.callWith_K0 (first := [.ref a]) I1.kIn hm.kp (run_fn (us := [.ref a]) (vs := [.ref a]) F hr hb hd hx I1 (.cons rfl .nil) q)

/-- what a class must have to be made -/
structure Mk (K : PySem.W.Frag) (C f : Addr) : Prop where
  makes : PySem.W.makesIn K C = true
  init : PySem.W.findIn K (.ref C) "__init__" = some (some (.ref f))
  fn : PySem.W.isFn K (.ref f) = true
  kp : PySem.W.keepIn K (.ref C) = true

theorem run_make {pins : List (Addr × Obj)} {σ : St} {H : Hp} {s : Shared} {Q : VK} {us : List Value} {vs : List V} (M : Mk X.K C f) (F : FnOk X.prog X.w X.K X.mg X.base CX k f fd ps sp) (hr : Room (k + 1) X.A) (hb : Binds X.K fd ps ds) (hd : Vals dvs ds)
    (hx : Passes CX X E) (I : Inv X pins σ H s) (r : Vals vs us)
    (h : ∀ x dx, H x = none → H dx = none → dx ≠ x → sp (.ref x :: (vs ++ dvs)) (upd (upd H dx (.own x)) x (.ins C dx [])) (fun v H2 => v = .non ∧ Q (.ref x) H2) E) :
    wpAny (model X.prog X.w) X.A (call (.ref C) us) (EP X pins σ Q) X.xe s := by
  have hq := h (s.heap.objs.size + 1) s.heap.objs.size (I.hok.fresh (Nat.le_succ _)) (I.hok.fresh (Nat.le_refl _)) (Nat.ne_of_lt (Nat.lt_succ_self _))
  have I2 := Inv.made (C := C) I
  have r2 : Vals (V.ref (s.heap.objs.size + 1) :: (vs ++ dvs)) (Value.ref (s.heap.objs.size + 1) :: (us ++ ds)) := .cons rfl (r.append hd)
  have hl : (Value.ref (s.heap.objs.size + 1) :: us ++ ds).length = ps.length := by
    have e := r2.length
    rw [F.len _ _ _ _ hq] at e
    exact e.symm
  refine wpAny_call (make_map (f := f) I.kIn M.makes M.init (beq_iff_eq.mp M.fn) (codeAny_mono (F.run _ X.stack _ _ ⟨Value.ref (s.heap.objs.size + 1) :: us, []⟩ (Value.ref (s.heap.objs.size + 1) :: (us ++ ds)) _ _ E (hr.make C us [])
    (I2.env0.make C us []) (hb _ (Value.ref (s.heap.objs.size + 1) :: us) I2.kIn hl) r2 hq) fun r s' hq' => ?_))
  cases r with
  | error e => exact hx pins σ _ _ e s' I2 hq'
  | ok fl =>
    cases fl with
    | ret u =>
      obtain ⟨v, H', I3, rv, ev, q3⟩ := I2.after hq'
      subst ev
      exact ⟨rv, ⟨V.ref (s.heap.objs.size + 1), H', I3, rfl, q3⟩⟩
    | next => exact False.elim hq'
    | brk => exact False.elim hq'
    | cont => exact False.elim hq'
theorem pe_make (M : Mk X.K C f) (F : FnOk X.prog X.w X.K X.mg X.base CX k f fd ps sp) (hr : Room (k + 1) X.A) (hg : Gl X x) (hm : X.mg x = some (.ref C)) (hb : Binds X.K fd ps ds) (hd : Vals dvs ds) (hx : Passes CX X E)
    (ha : PA X (e :: es) t) (hdb : (x == ("__debug__" : Str)) = false := by decide) (he : starEach (e :: es) X.env = (false, eval e X.env) :: starEach es X.env := by rfl) (hpl : (backTo pos (starEach es X.env)).any (·.1) = false := by rfl) :
    PE X (.Call (.Name x p) (e :: es) [] pos) (tMake C sp dvs E t) := by
  intro pins s σ H Q I h
  refine wpAny_Call_Name_kw (ld_glob I hg hm ?_ hdb)
  refine PySem.W.callWith_K (h₀ := X.base) I.ok.mod.kin M.kp (thn (ha pos pins s σ H _ I h) fun us s1 hz_ => ?_) he hpl
  obtain ⟨vs, H1, I1, r, q⟩ := hz_
  refine ⟨I1.kIn, ?_⟩
  exact run_make M F hr hb hd hx I1 r q
end

/-! ### keywords -/
/-- the values of the keywords, from the left -/
def PK (X : Cx) (kws : List Keyword) (t : TA) : Prop :=
  ∀ (pos : Pos) (pins : List (Addr × Obj)) (s : Shared) (σ : St) (H : Hp) (Q : List V → Hp → Prop), Inv X pins σ H s → t σ H Q → wpAny (model X.prog X.w) X.A (evalAll ((backToKw pos (keywordEach kws X.env)).map (·.2))) (AP X pins σ Q) X.xe s
section
variable {X : Cx} {CX : CXT} {k : Nat} {f C : Addr} {fd : FuncData} {ps ks : List Str} {sp : Sp} {E : XK} {x m : Str} {p pos apos kpos : Pos} {e o : Expr} {es : List Expr} {kws : List Keyword} {te ta : TE} {t tk : TA} {nm : Option Str}
theorem pk_nil : PK X [] tNil := fun _ _ _ _ H Q I h => wpAny_evalAll_nil ⟨[], H, I, .nil, h⟩
theorem pk_cons (ha : PE X e te) (hr : PK X kws t) : PK X (⟨nm, e, kpos⟩ :: kws) (tCons te t) := by
  intro pos pins s σ H Q I h
  show wpAny _ _ (evalAll ((do let v ← eval e X.env; standAt pos; pure v) :: (backToKw pos (keywordEach kws X.env)).map (·.2))) _ _ s
  refine wpAny_evalAll_cons (wpAny_bind (thn (ha pins s σ H _ I h) fun u s1 hz_ => ?_))
  obtain ⟨x, H1, I1, r1, q1⟩ := hz_
  refine wpAny_bind (wpAny_standAt (wpAny_pure ?_))
  refine thn (hr pos pins s1 σ H1 _ I1 q1) fun us s2 hz_ => ?_
  obtain ⟨xs, H2, I2, r2, q2⟩ := hz_
  exact ⟨x :: xs, H2, I2, .cons r1 r2, q2⟩

/-- how a call with keywords binds: g puts the positional values us and the keywords' values ws (names ks) in the parameters' order, defaults among them -/
structure KBinds (K : PySem.W.Frag) (fd : FuncData) (ps ks : List Str) (g : List Value → List Value → List Value) (gV : List V → List V → List V) : Prop where
  to : ∀ (s : Shared) (us ws : List Value), K.In s.heap → (g us ws).length = ps.length → BindsTo s fd ⟨us, ks.zip ws⟩ (ps.zip (g us ws))
  rel : ∀ {vs : List V} {us : List Value} {zs : List V} {ws : List Value}, Vals vs us → Vals zs ws → Vals (gV vs zs) (g us ws)
def tCallK (sp : Sp) (gV : List V → List V → List V) (E : XK) (t tk : TA) : TE := fun σ H Q => t σ H fun vs H1 => tk σ H1 fun zs H2 => sp (gV vs zs) H2 Q E
variable {g : List Value → List Value → List Value} {gV : List V → List V → List V}
end

/-! ### a def's body keeps its promise -/
/-- names: the parameters first -/
structure FnScope (N P : List Str) (sc : Scope) : Prop where
  kind : sc.kind = .function
  co : sc.isCoroutine = false
  gen : sc.isGenerator = false
  nd : N.Nodup
  pre : N.take P.length = P
  par : ∀ x ∈ P, sc.names.lookup x = some .local ∨ sc.names.lookup x = some .cell
  nofree : ∀ y ∈ sc.names, y.2 ≠ .free

theorem bindL_out {kindOf : Str → Option NameKind} {x : Str} : ∀ {binds : List (Str × Value)} {m : Str → Option Value}, (∀ v, (x, v) ∉ binds) → bindL kindOf binds m x = m x
  | [], _, _ => rfl
  | (n, v) :: r, m, h => by
    unfold bindL
    rw [bindL_out fun w hw => h w (List.mem_cons_of_mem _ hw)]
    split
    · have : x ≠ n := by rintro rfl; exact h v List.mem_cons_self
      simp [this]
    · rfl
theorem bindC_out {kindOf : Str → Option NameKind} {x : Str} : ∀ {binds : List (Str × Value)} {m : Str → Option Value}, (∀ v, (x, v) ∉ binds) → bindC kindOf binds m x = m x
  | [], _, _ => rfl
  | (n, v) :: r, m, h => by
    unfold bindC
    rw [bindC_out fun w hw => h w (List.mem_cons_of_mem _ hw)]
    split
    · rfl
    · have : x ≠ n := by rintro rfl; exact h v List.mem_cons_self
      simp [this]
theorem bindL_get {kindOf : Str → Option NameKind} {x : Str} {v : Value} : ∀ {P : List Str} {vs : List Value} {i : Nat} {m : Str → Option Value}, P.Nodup → P[i]? = some x → vs[i]? = some v → kindOf x = some .local →
    bindL kindOf (P.zip vs) m x = some v
  | [], _, _, _, _, h, _, _ => by simp at h
  | _ :: _, [], _, _, _, _, h, _ => by simp at h
  | p :: P, w :: vs, 0, m, nd, h1, h2, hk => by
    simp at h1 h2; subst h1; subst h2
    show bindL kindOf ((p, w) :: P.zip vs) m p = _
    unfold bindL
    rw [bindL_out fun v hv => (List.nodup_cons.mp nd).1 (List.of_mem_zip hv).1, if_pos hk]
    simp
  | p :: P, w :: vs, i + 1, m, nd, h1, h2, hk => by
    show bindL kindOf ((p, w) :: P.zip vs) m x = _
    unfold bindL
    exact bindL_get (i := i) (List.nodup_cons.mp nd).2 (by simpa using h1) (by simpa using h2) hk
theorem bindC_get {kindOf : Str → Option NameKind} {x : Str} {v : Value} : ∀ {P : List Str} {vs : List Value} {i : Nat} {m : Str → Option Value}, P.Nodup → P[i]? = some x → vs[i]? = some v → kindOf x ≠ some .local →
    bindC kindOf (P.zip vs) m x = some v
  | [], _, _, _, _, h, _, _ => by simp at h
  | _ :: _, [], _, _, _, _, h, _ => by simp at h
  | p :: P, w :: vs, 0, m, nd, h1, h2, hk => by
    simp at h1 h2; subst h1; subst h2
    show bindC kindOf ((p, w) :: P.zip vs) m p = _
    unfold bindC
    rw [bindC_out fun v hv => (List.nodup_cons.mp nd).1 (List.of_mem_zip hv).1, if_neg hk]
    simp
  | p :: P, w :: vs, i + 1, m, nd, h1, h2, hk => by
    show bindC kindOf ((p, w) :: P.zip vs) m x = _
    unfold bindC
    exact bindC_get (i := i) (List.nodup_cons.mp nd).2 (by simpa using h1) (by simpa using h2) hk

/-- the names' values at the entry -/
def start (N : List Str) (vs : List V) : St := vs.map some ++ List.replicate (N.length - vs.length) none

/-- the context of a def's body, at its entry; an exception leaves the frame, then lies as CX says -/
def cxOf (CX : CXT) (P : Program) (w : World) (K : PySem.W.Frag) (mg : Str → Option Value) (base : Heap) (N : List Str) (qual : Str) (scope : Scope) (f : Addr) (cd : Value) (A : Around) (outer : List Env) (s : Shared) (H : Hp) (E : XK) : Cx where
  prog := P
  w := w
  K := K
  mg := mg
  base := base
  A := A.deeper (envOfC qual scope s.heap.objs.size f cd)
  N := N
  s₀ := s
  H₀ := H
  env := envOfC qual scope s.heap.objs.size f cd
  outer := outer
  stack := envOfC qual scope s.heap.objs.size f cd :: outer
  ex := []
  calm := true
  fn := fun _ => true
  pn := []
  xe := fun e s' => wpAny (model P w) (A.deeper (envOfC qual scope s.heap.objs.size f cd)) (leaving (envOfC qual scope s.heap.objs.size f cd) e) (fun _ s'' => CX outer H s E e s'') (fun e' s'' => CX outer H s E e' s'') s'

theorem cell_has {sc : Scope} {n : Nat} {x : Str} (h : sc.names.lookup x = some .cell) : ∃ c, (cellsFrom n sc.names []).lookup x = some c := by
  have q := PySem.W.cellsFrom_some sc.names n [] (.inl h)
  exact Option.isSome_iff_exists.mp q

theorem inv_start {CX : CXT} {P : Program} {w : World} {K : PySem.W.Frag} {mg : Str → Option Value} {base : Heap} {N ps : List Str} {qual : Str} {scope : Scope} {f : Addr} {cd : Value} {A : Around} {outer : List Env} {s s1 : Shared} {H : Hp} {E : XK} {us : List Value} {vs : List V}
    (S : FnScope N ps scope) (hd : A.handled = none) (e0 : Env0 P w K mg base A outer s H) (hl : vs.length = ps.length) (r : Vals vs us)
    (x : InCallC s s.heap.objs.size (bindL (envOfC qual scope s.heap.objs.size f cd).kindOf (ps.zip us) fun _ => none) (cellsFrom (s.heap.objs.size + 1) scope.names []) (bindC (envOfC qual scope s.heap.objs.size f cd).kindOf (ps.zip us) fun _ => none) s1) :
    Inv (cxOf CX P w K mg base N qual scope f cd A outer s H E) [] (start N vs) H s1 := by
  have hpl : ps.length ≤ N.length := by have := congrArg List.length S.pre; rw [List.length_take] at this; omega
  obtain ⟨h1, tk, rfl, hk⟩ := x.done
  have noA : ∀ b : Addr, b ∉ (cxOf CX P w K mg base N qual scope f cd A outer s H E).ex := fun b z => absurd (show b ∈ ([] : List Addr) from z) (by simp)
  refine ⟨⟨e0.mod, S.kind, rfl, rfl, Nat.le_refl _, fun y z c h1 h2 => ?_, fun y hy => ?_, fun y c _ h => ?_, fun _ => hd, Around.frames_deeper e0.frames, .inr ⟨rfl, rfl⟩, fun b z => absurd z (noA b), e0.bs, e0.bsz, fun b _ _ => noA b, fun b z => absurd z (noA b), e0.funs, e0.frf⟩,
    rfl, e0.bare, Un.kept hk, ⟨_, x.toInCall.ns, fun i y v h1 h2 h3 => ?_⟩, fun y c h => ⟨_, x.cell y c h⟩, e0.hok.fresh (Nat.le_refl _), fun y c h => ?_, fun p hp => absurd (show p ∈ ([] : List (Addr × Obj)) from hp) (by simp), e0.hok.kept hk, ?_⟩
  · exact name_of_addr x.apart (PySem.mem_of_lookup h1) (PySem.mem_of_lookup h2)
  · have hy : scope.names.lookup y = some .cell ∨ scope.names.lookup y = some .free := hy
    rcases hy with hy | hy
    · exact cell_has hy
    · exact absurd rfl (S.nofree _ (PySem.mem_of_lookup hy))
  · exact Nat.le_of_lt (x.above y c (PySem.mem_of_lookup h))
  · have hi : i < vs.length := by
      unfold start at h2
      by_cases hi : i < vs.length
      · exact hi
      · rw [List.getElem?_append_right (by simpa using hi)] at h2
        rw [List.getElem?_replicate] at h2
        split at h2 <;> cases h2
    have ha : vs[i]? = some v := by
      unfold start at h2
      rw [List.getElem?_append_left (by simpa using hi), List.getElem?_map] at h2
      cases e : vs[i]? with
      | none => rw [e] at h2; cases h2
      | some a => rw [e] at h2; cases h2; rfl
    obtain ⟨u, hu, rv⟩ := r.get ha
    have hp : ps[i]? = some y := by
      rw [← S.pre, List.getElem?_take_of_lt (by omega)]; exact h1
    have ndP : ps.Nodup := by rw [← S.pre]; exact S.nd.sublist (List.take_sublist _ _)
    refine ⟨u, rv, ?_⟩
    rcases S.par y (List.mem_of_getElem? hp) with k | k
    · exact .inl ⟨k, bindL_get ndP hp hu k⟩
    · obtain ⟨c, e⟩ := cell_has (n := s.heap.objs.size + 1) k
      refine .inr ⟨.inl k, c, e, ?_⟩
      have q := x.cell y c e
      rw [bindC_get ndP hp hu (by show scope.names.lookup y ≠ _; rw [k]; decide)] at q
      exact q
  · exact e0.hok.fresh (Nat.le_of_lt (x.above y c (PySem.mem_of_lookup h)))
  · unfold start
    show _ = N.length
    rw [List.length_append, List.length_map, List.length_replicate]
    omega

/-- THE RULE: a def (or a method) of the text, by its body. The body's reading t is chosen for each entry; it is run at the parameters' values -/
theorem fn_of {CX : CXT} {P : Program} {w : World} {K : PySem.W.Frag} {mg : Str → Option Value} {base : Heap} {k : Nat} {f : Addr} {name qual : Str} {params : Arguments} {body : List Stmt} {scope : Scope} {dV kV doc pm cdv ct oc : Value} {an od : Option Addr}
    {osl : Array (Option Value)} {N ps : List Str} {sp : Sp} (lk : K.lookup f = some ⟨oc, od, .func (PySem.W.fnOf name qual params body scope dV kV doc pm an cdv ct), osl⟩) (hcd : PySem.W.codeIn K cdv qual = true) (S : FnScope N ps scope)
    (len : ∀ vs H Q E, sp vs H Q E → vs.length = ps.length)
    (hbody : ∀ (A : Around) (outer : List Env) (s : Shared) (H : Hp) (vs : List V) (Q : VK) (E : XK), Room k (A.deeper (envOfC qual scope s.heap.objs.size f cdv)) → sp vs H Q E →
      ∃ t, PSs (cxOf CX P w K mg base N qual scope f cdv A outer s H E) body t ∧ t { nx := fun _ H' => Q .non H', rt := Q } (start N vs) H) :
    FnOk P w K mg base CX (k + 1) f (PySem.W.fnOf name qual params body scope dV kV doc pm an cdv ct) ps sp := by
  refine ⟨len, fun A outer s H args us vs Q E hr e0 hb r hsp => ?_⟩
  have hl := len _ _ _ _ hsp
  have KX : K.In s.heap := e0.mod.kin.keeps fun b o e => (e0.bs b o e).1
  have lim : s.heap.NoLimit := e0.mod.nolimit.keeps fun b o e => (e0.bs b o e).1
  have hkind : ∀ y ∈ ps.zip us, scope.names.lookup y.1 = some .local ∨ (scope.names.lookup y.1 = some .cell ∧ ((cellsFrom (s.heap.objs.size + 1) scope.names []).lookup y.1).isSome = true) := fun ⟨n, v⟩ hy => by
    rcases S.par n (List.of_mem_zip hy).1 with q | q
    · exact .inl q
    · exact .inr ⟨q, PySem.W.cellsFrom_some _ _ _ (.inl q)⟩
  refine codeAny_call_function hr.depth (KX _ _ lk) rfl S.co S.gen rfl (PySem.W.codeRec_of KX hcd) (hb _ _ _ _ ?_)
  refine wpAny_newFunctionEnv_cells S.kind hkind fun env he s1 x => ?_
  subst he
  refine ⟨lim.keeps x.toInCall.keep, codeAny_func ?_⟩
  obtain ⟨t, ht, hq⟩ := hbody A outer s H vs Q E (hr.deeper _) hsp
  have I : Inv (cxOf CX P w K mg base N qual scope f cdv A outer s H E) [] (start N vs) H s1 := inv_start S hr.hd e0 hl r x
  refine wpAny_mono (ht [] s1 (start N vs) H _ I hq) (fun fl s' hs => ?_) fun e s' hs => hs
  have fin : ∀ {σ' : St} {H' : Hp} {v : V} {u : Value}, Inv (cxOf CX P w K mg base N qual scope f cdv A outer s H E) [] σ' H' s' → RelV v u → Q v H' → CE outer P w H s Q u s' :=
    fun {σ' H' v u} J rv q => ⟨v, H', J.os, J.bare, J.base, J.hok, rv, q⟩
  cases fl with
  | ret u =>
    obtain ⟨v, σ', H', J, rv, q⟩ := hs
    exact fin J rv q
  | next =>
    obtain ⟨σ', H', J, q⟩ := hs
    exact fin (v := V.non) (u := Value.none) J rfl q
  | brk =>
    obtain ⟨_, _, _, q⟩ := hs
    exact False.elim q
  | cont =>
    obtain ⟨_, _, _, q⟩ := hs
    exact False.elim q
end L2

namespace L2
open PySem PySem.Spec PyProof.Rows
section
variable {X : Cx} {x : Str} {p pos : Pos} {e : Expr} {es : List Expr} {t : TA} {id T : String} {r : List V → Hp → VK → Prop}

def tCB (r : List V → Hp → VK → Prop) (t : TA) : TE := fun σ H Q => t σ H fun vs H1 => r vs H1 Q
/-- f(e, ..), f a built-in function -/
theorem pe_callB (hc : CallR X (.builtin id) r) (hg : Gl X x) (hm : X.mg x = none) (hv : bootBuiltins x = some (.builtin id)) (ha : PA X (e :: es) t) (hn : x ≠ "__name__" := by decide) (hdb : (x == ("__debug__" : Str)) = false := by decide)
    (he : starEach (e :: es) X.env = (false, eval e X.env) :: starEach es X.env := by rfl) (hpl : (backTo pos (starEach es X.env)).any (·.1) = false := by rfl) : PE X (.Call (.Name x p) (e :: es) [] pos) (tCB r t) := by
  intro pins s σ H Q I h
  refine wpAny_Call_Name_kw (ld_blt I hg hm hv ?_ hn hdb)
  refine PyProof.Rows.callWith_builtin1 (thn (ha pos pins s σ H _ I h) fun us s1 hz_ => ?_) he hpl
  obtain ⟨vs, H1, I1, r1, q1⟩ := hz_
  exact hc pins s1 σ H1 vs us Q I1 r1 q1
/-- T(e, ..), T a built-in type -/
theorem pe_callTy (hc : CallR X (.type T) r) (hg : Gl X x) (hm : X.mg x = none) (hv : bootBuiltins x = some (.type T)) (ha : PA X (e :: es) t) (hn : x ≠ "__name__" := by decide) (hdb : (x == ("__debug__" : Str)) = false := by decide)
    (he : starEach (e :: es) X.env = (false, eval e X.env) :: starEach es X.env := by rfl) (hpl : (backTo pos (starEach es X.env)).any (·.1) = false := by rfl) : PE X (.Call (.Name x p) (e :: es) [] pos) (tCB r t) := by
  intro pins s σ H Q I h
  refine wpAny_Call_Name_kw (ld_blt I hg hm hv ?_ hn hdb)
  refine PyProof.Rows.callWith_type1 (thn (ha pos pins s σ H _ I h) fun us s1 hz_ => ?_) he hpl
  obtain ⟨vs, H1, I1, r1, q1⟩ := hz_
  exact hc pins s1 σ H1 vs us Q I1 r1 q1
end
end L2

namespace HT
open PySem PyProof.Rows

/-- t < u of tuples of ints -/
def lexLt : List Int → List Int → Bool
  | [], [] => false
  | [], _ :: _ => true
  | _ :: _, [] => false
  | x :: xs, y :: ys => if x = y then lexLt xs ys else decide (x < y)
section
open PySem.SeqAt
open PySem.AutoSeq1 (wpAny_loadPart')
open PySem.MeetsSeq PySem.MeetsSeq2 PySem.MeetsSeq3

end

section
variable {prog : Program} {w : World} {A : Around} {E : Value → Shared → Prop} {s : Shared}

/-! ### t[a:b], not the whole -/
/-- a slice's bound as a place among n (d where it is left out) -/
def sIx (n d : Nat) : Option Int → Nat
  | none => d
  | some v => if v < 0 then (v + (n : Int)).toNat else min v.toNat n
theorem sIx_le (n d : Nat) (hd : d ≤ n) (o : Option Int) : sIx n d o ≤ n := by
  cases o with
  | none => exact hd
  | some v =>
    show (if v < 0 then (v + (n : Int)).toNat else min v.toNat n) ≤ n
    by_cases hv : v < 0
    · rw [if_pos hv]; omega
    · rw [if_neg hv]; exact Nat.min_le_right _ _
theorem clip_eq (v : Int) (n d : Nat) : (if v < 0 then max (v + (n : Int)) 0 else min v (n : Int)) = ((sIx n d (some v) : Nat) : Int) := by
  show (if v < 0 then max (v + (n : Int)) 0 else min v (n : Int)) = (((if v < 0 then (v + (n : Int)).toNat else min v.toNat n) : Nat) : Int)
  by_cases hv : v < 0
  · simp only [if_pos hv]; omega
  · simp only [if_neg hv]; omega
theorem adjust_gen (lo hi : Option Int) (n : Nat) : Builtin.Slice.sliceAdjust lo hi 1 (n : Int) = (((sIx n 0 lo : Nat) : Int), ((sIx n n hi : Nat) : Int)) := by
  have h1 : ¬ ((1 : Int) < 0) := by omega
  unfold Builtin.Slice.sliceAdjust
  simp only [h1, if_false]
  refine Prod.ext ?_ ?_
  · cases lo with
    | none => rfl
    | some v => exact clip_eq v n 0
  · cases hi with
    | none => rfl
    | some v => exact clip_eq v n n
theorem places_gen (i j : Nat) : Builtin.Slice.slicePlaces (i : Int) (j : Int) 1 = j - i := by
  unfold Builtin.Slice.slicePlaces
  have h1 : (1 : Int) > 0 := by omega
  simp only [h1, if_true, Int.ediv_one]
  split <;> omega
theorem slicePart_ {v : Value} {o : Option Int} {Q : Option Int → Shared → Prop} (p : IsPart v o) (h : Q o s) : wpAny (model prog w) A (Builtin.Slice.slicePartIndex v) Q E s := by
  cases p with
  | none => exact slicePart_none h
  | int i t => exact slicePart_int h
theorem sliceApplied_gen {sl : Addr} {vl vu : Value} {lo hi : Option Int} {n : Nat} {Q : Int × Int × Nat → Shared → Prop} (hs : s.heap.IsSliceOf sl vl vu .none) (pl : IsPart vl lo) (pu : IsPart vu hi)
    (h : Q (((sIx n 0 lo : Nat) : Int), 1, sIx n n hi - sIx n 0 lo) s) : wpAny (model prog w) A (Builtin.Slice.sliceApplied (.ref sl) (pure (n : Int))) Q E s := by
  obtain ⟨os, hos, hcs, hds⟩ := id hs
  unfold Builtin.Slice.sliceApplied Builtin.Slice.sliceFields
  refine wpAny_bind (wpAny_bind (wpAny_field hos hds (x := vl) rfl (wpAny_bind (wpAny_field hos hds (x := vu) rfl (wpAny_bind (wpAny_field hos hds (x := .none) rfl (wpAny_pure ?_)))))))
  refine wpAny_bind (slicePart_none ?_)
  show wpAny _ _ (if ((1 : Int) == 0) = true then _ else _) _ _ s
  rw [if_neg (by decide)]
  refine wpAny_bind (slicePart_ pl (wpAny_bind (slicePart_ pu (wpAny_bind (wpAny_pure ?_)))))
  show wpAny _ _ (match Builtin.Slice.sliceAdjust lo hi 1 (n : Int) with | (lo, hi) => pure (lo, (1 : Int), Builtin.Slice.slicePlaces lo hi 1)) _ _ s
  rw [adjust_gen lo hi n]
  show wpAny _ _ (pure (((sIx n 0 lo : Nat) : Int), (1 : Int), Builtin.Slice.slicePlaces ((sIx n 0 lo : Nat) : Int) ((sIx n n hi : Nat) : Int) 1)) _ _ s
  rw [places_gen]
  exact wpAny_pure h
theorem pick_gen (xs : Array Value) (i k : Nat) : ((List.range k).filterMap fun (m : Nat) => xs[((i : Int) + (m : Int) * 1).toNat]?).toArray = ((xs.toList.drop i).take k).toArray := by
  have e : (fun (m : Nat) => xs[((i : Int) + (m : Int) * 1).toNat]?) = fun m => xs[i + m]? := by
    funext m
    have : ((i : Int) + (m : Int) * 1).toNat = i + m := by omega
    rw [this]
  rw [e]
  have := pick_run xs i k
  rw [List.filterMap_map] at this
  have e2 : ((fun x => xs[x]?) ∘ fun x => i + x) = fun m => xs[i + m]? := rfl
  rw [e2] at this
  rw [this]

theorem getItem_tuple_cut {t sl : Addr} {items : Array Value} {vl vu : Value} {lo hi : Option Int} {Q : Value → Shared → Prop} (ht : IsTup s.heap t items) (hs : s.heap.IsSliceOf sl vl vu .none) (pl : IsPart vl lo) (pu : IsPart vu hi)
    (hw : ¬ (sIx items.size 0 lo = 0 ∧ sIx items.size items.size hi = items.size))
    (h : Q (.ref s.heap.objs.size) { s with heap := s.heap.push { cls := .type "tuple", data := .seq ((items.toList.drop (sIx items.size 0 lo)).take (sIx items.size items.size hi - sIx items.size 0 lo)).toArray } })
    (hsz : items.size ≤ sizeLine) : wpAny (model prog w) A (getItem (.ref t) (.ref sl)) Q E s := by
  have htake : sizeOk (.seq ((items.toList.drop (sIx items.size 0 lo)).take (sIx items.size items.size hi - sIx items.size 0 lo)).toArray) := by
    show ((items.toList.drop (sIx items.size 0 lo)).take (sIx items.size items.size hi - sIx items.size 0 lo)).toArray.size ≤ sizeLine
    rw [List.size_toArray, List.length_take, List.length_drop, Array.length_toList]
    omega
  have hj : sIx items.size items.size hi ≤ items.size := sIx_le _ _ (Nat.le_refl _) hi
  obtain ⟨os, hos, hcs, hds⟩ := id hs
  have hTs : s.TypeIs (.ref sl) "slice" := ⟨os, hos, hcs⟩
  unfold getItem
  try with_reducible refine wpAny_holding ?_
  first | refine wpAny_bind (wpAny_pure ?_) | skip
  refine wpAny_bind (wpAny_sequenceKey ht.typeIs (by decide) ?_)
  refine wpAny_bind (wpAny_callSpecial?_slot (name := Str.ofString "__getitem__") ht.typeIs PyProof.Rows.slot_tuple_getitem
    (wpAny_call_entry PyProof.Rows.slot_tuple_getitem ht.typeIs entry_tuple_getitem ?_ (args_tuple_getitem _ _)))
  show wpAny _ _ (Builtin.Tuple.tupleItemsOf (.ref t) >>= _) _ _ s
  refine wpAny_bind (tupleItemsOf_ ht ?_)
  refine wpAny_bind (wpAny_typeOf hTs ?_)
  rw [if_pos (by decide)]
  refine wpAny_bind (sliceApplied_gen hs pl pu ?_)
  have hno : ¬ ((((sIx items.size 0 lo : Nat) : Int) == 0 && (1 : Int) == 1 && (sIx items.size items.size hi - sIx items.size 0 lo) == items.size) = true) := by
    intro q
    rw [Bool.and_eq_true, Bool.and_eq_true] at q
    have q1 : ((sIx items.size 0 lo : Nat) : Int) = 0 := eq_of_beq q.1.1
    have q2 : sIx items.size items.size hi - sIx items.size 0 lo = items.size := eq_of_beq q.2
    exact hw ⟨by omega, by omega⟩
  show wpAny _ _ (if (((sIx items.size 0 lo : Nat) : Int) == 0 && (1 : Int) == 1 && (sIx items.size items.size hi - sIx items.size 0 lo) == items.size) = true then _ else _) _ _ s
  rw [if_neg hno, pick_gen]
  first
    | exact wpAny_bind (m := Builtin.Tuple.tupleExact _) (wpAny_newObj_type (wpAny_pure ⟨_, rfl, wpAny_pure h⟩) htake)
    | exact wpAny_bind (m := Builtin.Tuple.tupleExact _) (wpAny_newObj_type (wpAny_bind (wpAny_pure (wpAny_pure ⟨_, rfl, wpAny_pure h⟩))) htake)
    | exact wpAny_bind (wpAny_bind (m := Builtin.Tuple.tupleExact _) (wpAny_newObj_type (wpAny_pure (wpAny_pure ⟨_, rfl, wpAny_pure h⟩)) htake))
    | exact wpAny_bind (wpAny_bind (m := Builtin.Tuple.tupleExact _) (wpAny_newObj_type (wpAny_pure ⟨_, rfl, wpAny_pure h⟩) htake))
end
end HT

namespace L2
open PySem PySem.Spec PyProof.Rows

/-! ### the parts of a slice -/
abbrev TO := St → Hp → (Option Int → Hp → Prop) → Prop
/-- a slice's part (left out, or an int) -/
def PO (X : Cx) (e : Option Expr) (t : TO) : Prop :=
  ∀ (pins : List (Addr × Obj)) (s : Shared) (σ : St) (H : Hp) (Q : Option Int → Hp → Prop), Inv X pins σ H s → t σ H Q →
    wpAny (model X.prog X.w) X.A (evalPart e X.env) (fun u s' => ∃ o H', Inv X pins σ H' s' ∧ IsPart u o ∧ Q o H') X.xe s
def tNoPart : TO := fun _ H Q => Q none H
def tPart (t : TE) : TO := fun σ H Q => t σ H fun x H1 => ∃ i, x = .int i ∧ Q (some i) H1

theorem intsAre_of {ns : List Int} : ∀ {us : List Value}, Vals (ns.map V.int) us → IntsAre us ns := by
  induction ns with
  | nil => intro us r; rw [List.map_nil] at r; cases r; exact .nil
  | cons n ns ih =>
    intro us r
    rw [List.map_cons] at r
    cases r with
    | cons r1 r2 =>
      obtain ⟨t, e⟩ := r1
      subst e
      exact .cons n t (ih r2)

section
variable {X : Cx} {e : Expr} {te : TE} {lo hi : Option Expr} {tl th : TO} {pos p2 : Pos}

theorem po_none : PO X none tNoPart := by
  intro pins s σ H Q I h
  rw [evalPart_none]
  exact wpAny_pure ⟨none, H, I, .none, h⟩
theorem po_some (h : PE X e te) : PO X (some e) (tPart te) := by
  intro pins s σ H Q I hw
  rw [evalPart_some]
  refine thn (h pins s σ H _ I hw) fun u s1 hz_ => ?_
  obtain ⟨x, H1, I1, r1, q1⟩ := hz_
  obtain ⟨i, rfl, q⟩ := q1
  obtain ⟨t, rfl⟩ := r1
  exact ⟨some i, H1, I1, .int i t, q⟩

/-- what a slice of a value is, by values: the slice object stands at sl -/
def SlR (X : Cx) (r : V → Option Int → Option Int → Hp → VK → Prop) : Prop :=
  ∀ (pins : List (Addr × Obj)) (s : Shared) (σ : St) (H : Hp) (x : V) (v vl vu : Value) (lo hi : Option Int) (sl : Addr) (Q : VK), Inv X pins σ H s → RelV x v → s.heap.IsSliceOf sl vl vu .none → IsPart vl lo → IsPart vu hi → r x lo hi H Q →
    ∃ T id, typeLookup (.type T) "__getitem__" = pure (some (.builtin id)) ∧ s.TypeIs v T ∧ wpAny (model X.prog X.w) X.A (getItem v (.ref sl)) (EP X pins σ Q) X.xe s
def tSl (r : V → Option Int → Option Int → Hp → VK → Prop) (te : TE) (tl th : TO) : TE := fun σ H Q => te σ H fun x H1 => tl σ H1 fun l H2 => th σ H2 fun u H3 => r x l u H3 Q
/-- a[lo:hi], any a -/
theorem pe_slice {r : V → Option Int → Option Int → Hp → VK → Prop} (hr : SlR X r) (he : PE X e te) (hl : PO X lo tl) (hu : PO X hi th) : PE X (.Subscript e (.Slice lo hi none p2) pos) (tSl r te tl th) := by
  intro pins s σ H Q I h
  refine Subscript_ (thn (he pins s σ H _ I h) fun v s1 hz_ => ?_)
  obtain ⟨x, H1, I1, r1, q1⟩ := hz_
  refine wpAny_Slice (thn (hl pins s1 σ H1 _ I1 q1) fun vl s2 hz_ => ?_)
  obtain ⟨l, H2, I2, pl, q2⟩ := hz_
  refine thn (hu pins s2 σ H2 _ I2 q2) fun vu s3 hz_ => ?_
  obtain ⟨u, H3, I3, pu, q3⟩ := hz_
  rw [evalPart_none]
  refine wpAny_pure ?_
  have I4 : Inv X pins σ H3 { s3 with heap := s3.heap.push { cls := .type "slice", data := .fields #[vl, vu, .none] } } := I3.kept (t' := s3.toks) fun b ob q => Heap.get?_push_of_some _ q
  obtain ⟨T, id, hT, ht, hg⟩ := hr pins { s3 with heap := s3.heap.push { cls := .type "slice", data := .fields #[vl, vu, .none] } } σ H3 x v vl vu l u s3.heap.objs.size Q I4 r1 (Heap.IsSliceOf.new ..) pl pu q3
  show wpAny (model X.prog X.w) X.A (subscriptTail e (.Slice lo hi none p2) v (.ref s3.heap.objs.size)) (EP X pins σ Q) X.xe { s3 with heap := s3.heap.push { cls := .type "slice", data := .fields #[vl, vu, .none] } }
  exact tail_any (ops := [.ref s3.heap.objs.size, v]) ht hT hg (by with_unfolding_all rfl)

/-- the items of xs[lo:hi] -/
def cutV (xs : List V) (lo hi : Option Int) : List V := (xs.drop (HT.sIx xs.length 0 lo)).take (HT.sIx xs.length xs.length hi - HT.sIx xs.length 0 lo)
theorem cutV_length (xs : List V) (lo hi : Option Int) : (cutV xs lo hi).length ≤ xs.length := by
  unfold cutV
  rw [List.length_take, List.length_drop]
  omega
/-- t[lo:hi], not the whole of it (the whole would be t itself) -/
def rSlT (K : PySem.W.Frag) : V → Option Int → Option Int → Hp → VK → Prop := fun x lo hi H Q => ∃ a xs, x = .ref a ∧ SqT K H a xs ∧
  ¬ (HT.sIx xs.length 0 lo = 0 ∧ HT.sIx xs.length xs.length hi = xs.length) ∧ ∀ p, H p = none → Q (.ref p) (upd H p (.tup (cutV xs lo hi)))
theorem sl_tup : SlR X (rSlT X.K) := by
  intro pins s σ H x v vl vu lo hi sl Q I rx hs pl pu h
  obtain ⟨a, xs, rfl, hx, hw, q⟩ := h
  cases rx
  obtain ⟨its, r, ht, hz⟩ := I.tuple hx
  have hlen : its.toArray.size = xs.length := by rw [List.size_toArray]; exact r.length.symm
  refine ⟨"tuple", _, PyProof.Rows.slot_tuple_getitem.lookup, ht.typeIs, ?_⟩
  refine HT.getItem_tuple_cut ht hs pl pu (by rw [hlen]; exact hw) ?_ (by rw [hlen]; exact hz)
  rw [hlen]
  refine ⟨.ref s.heap.objs.size, _, I.laid (t' := s.toks) (o := .tup (cutV xs lo hi)) (fun b ob q => Heap.get?_push_of_some _ q) (Nat.le_refl _) ?_, rfl, q _ (I.hok.fresh (Nat.le_refl _))⟩
  exact ⟨Nat.le_trans (cutV_length xs lo hi) hz, _, (r.drop (HT.sIx xs.length 0 lo)).take (HT.sIx xs.length xs.length hi - HT.sIx xs.length 0 lo), IsTup.new _ _⟩

/-! ### t < u, t + u -/
def rLtT (K : PySem.W.Frag) : R2 := fun x y H Q => ∃ a b ns ms, x = .ref a ∧ y = .ref b ∧ SqT K H a (ns.map V.int) ∧ SqT K H b (ms.map V.int) ∧ Q (.bl (HT.lexLt ns ms)) H
/-- t + u, t not empty: u empty gives t itself -/
def rCatT (K : PySem.W.Frag) : R2 := fun x y H Q => ∃ a b xs ys, x = .ref a ∧ y = .ref b ∧ SqT K H a xs ∧ SqT K H b ys ∧ xs ≠ [] ∧ xs.length + ys.length ≤ sizeLine ∧
  (ys = [] → Q (.ref a) H) ∧ (ys ≠ [] → ∀ p, H p = none → Q (.ref p) (upd H p (.tup (xs ++ ys))))
end
end L2

namespace L2
open PySem PySem.Spec PyProof.Rows

/-! ### places -/
/-- the place that an index of any sign means -/
def ixN (n : Nat) (i : Int) : Option Nat := if 0 ≤ i then (if i < n then some i.toNat else none) else if -(n : Int) ≤ i then some (i + n).toNat else none
def atI {α : Type} (xs : List α) (i : Int) : Option α := (ixN xs.length i).bind fun j => xs[j]?
theorem ixN_seq {n : Nat} {i : Int} {j : Nat} (h : ixN n i = some j) : seqIndex? i n = some j ∧ j < n ∧ -(n : Int) ≤ i ∧ i < n := by
  unfold ixN at h
  by_cases h0 : 0 ≤ i
  · rw [if_pos h0] at h
    by_cases h1 : i < n
    · rw [if_pos h1] at h
      have e : i.toNat = j := Option.some.inj h
      exact ⟨by rw [seqIndex_of h0 h1, e], by omega, by omega, h1⟩
    · rw [if_neg h1] at h; cases h
  · rw [if_neg h0] at h
    by_cases h1 : -(n : Int) ≤ i
    · rw [if_pos h1] at h
      have e : (i + n).toNat = j := Option.some.inj h
      exact ⟨by rw [seqIndex_neg (by omega) h1, e], by omega, h1, by omega⟩
    · rw [if_neg h1] at h; cases h
theorem atI_get {α : Type} {xs : List α} {i : Int} {v : α} (h : atI xs i = some v) : ∃ j, seqIndex? i xs.length = some j ∧ xs[j]? = some v ∧ j < xs.length ∧ -(xs.length : Int) ≤ i ∧ i < xs.length := by
  unfold atI at h
  cases e : ixN xs.length i with
  | none => rw [e] at h; cases h
  | some j =>
    rw [e] at h
    obtain ⟨h1, h2, h3, h4⟩ := ixN_seq e
    exact ⟨j, h1, h, h2, h3, h4⟩
theorem atI_nat {α : Type} {xs : List α} {j : Nat} {v : α} (h : xs[j]? = some v) : atI xs (j : Int) = some v := by
  have hj : j < xs.length := (List.getElem?_eq_some_iff.mp h).1
  have e : ixN xs.length (j : Int) = some j := by
    unfold ixN
    rw [if_pos (by omega), if_pos (by omega)]; simp
  unfold atI; rw [e]; exact h
/-! ### what may be subscripted -/
/-- what stands as an index of a plain subscript -/
def PlainIx (b : Expr) : Prop := ∀ o i, subscripted b false o i = operate [o, i] (getItem o i)
/-- a subscript by values -/
def IxR (X : Cx) (r : R2) : Prop :=
  ∀ (value slice : Expr) (pins : List (Addr × Obj)) (s : Shared) (σ : St) (H : Hp) (x y : V) (v u : Value) (Q : VK), Inv X pins σ H s → RelV x v → RelV y u → r x y H Q →
    subscripted slice false v u = operate [v, u] (getItem v u) → wpAny (model X.prog X.w) X.A (subscriptTail value slice v u) (EP X pins σ Q) X.xe s
/-- a call of a builtin's method by values: the receiver, the arguments -/
def MtR (X : Cx) (id : String) (r : V → List V → Hp → VK → Prop) : Prop :=
  ∀ (pins : List (Addr × Obj)) (s : Shared) (σ : St) (H : Hp) (x : V) (xs : List V) (v : Value) (us : List Value) (Q : VK), Inv X pins σ H s → RelV x v → Vals xs us → r x xs H Q →
    wpAny (model X.prog X.w) X.A (call (.builtin id) (v :: us)) (EP X pins σ Q) X.xe s
section
variable {X : Cx} {a b : Expr} {ta tb : TE} {pos : Pos}
/-- a[b] -/
theorem pe_ix {r : R2} (hr : IxR X r) (ha : PE X a ta) (hb : PE X b tb) (hs : PlainIx b) : PE X (.Subscript a b pos) (tOp r ta tb) := by
  intro pins s σ H Q I h
  exact Subscript_ (binT ha hb I h fun v u s2 x y H2 I2 rx ry q => hr a b pins s2 σ H2 x y v u Q I2 rx ry q (hs _ _))

def rIxL (K : PySem.W.Frag) : R2 := fun x y H Q => ∃ p xs i v, x = .ref p ∧ y = .int i ∧ SqL K H p xs ∧ atI xs i = some v ∧ Q v H
def rIxT (K : PySem.W.Frag) : R2 := fun x y H Q => ∃ p xs i v, x = .ref p ∧ y = .int i ∧ SqT K H p xs ∧ atI xs i = some v ∧ Q v H
def rIxS : R2 := fun x y H Q => ∃ z i c, x = .str z ∧ y = .int i ∧ z.length ≤ sizeLine ∧ atI z.cps.toList i = some c ∧ Q (.str ⟨#[c]⟩) H
theorem ix_list : IxR X (rIxL X.K) := by
  intro value slice pins s σ H x y v u Q I rx ry h hs
  obtain ⟨p, xs, i, z, rfl, rfl, hq, he, q⟩ := h
  cases rx
  obtain ⟨t, rfl⟩ := ry
  obtain ⟨its, r, pl, hz⟩ := I.list hq
  obtain ⟨j, h1, h2, h3, h4, h5⟩ := atI_get he
  obtain ⟨w, ew, rw'⟩ := r.get h2
  have hl := r.length
  have hn := line63
  have fin : EP X pins σ Q w s := ⟨z, H, I, rw', q⟩
  by_cases h0 : 0 ≤ i
  · have hj : i.toNat = j := by
      rw [seqIndex_of h0 h5] at h1
      exact Option.some.inj h1
    exact item_listR pl.isList h0 (by omega) (by rw [hj]; simpa using ew) fin hs
  · have hj : (i + (its.toArray.size : Int)).toNat = j := by
      rw [seqIndex_neg (by omega) h4] at h1
      rw [List.size_toArray, ← hl]
      exact Option.some.inj h1
    exact subscriptTail_builtinR (x := w) pl.isList.typeIs slot_list_getitem.lookup
      (wpAny_getItem_list_neg (Q := fun r s' => r = w ∧ EP X pins σ Q r s') pl.isList (by omega) (by rw [List.size_toArray] <;> omega) (by omega) (by rw [hj]; simpa using ew) ⟨rfl, fin⟩) hs
theorem ix_tup : IxR X (rIxT X.K) := by
  intro value slice pins s σ H x y v u Q I rx ry h hs
  obtain ⟨p, xs, i, z, rfl, rfl, hq, he, q⟩ := h
  cases rx
  obtain ⟨t, rfl⟩ := ry
  obtain ⟨its, r, pl, hz⟩ := I.tuple hq
  obtain ⟨j, h1, h2, h3, h4, h5⟩ := atI_get he
  obtain ⟨w, ew, rw'⟩ := r.get h2
  have hl := r.length
  have hn := line63
  have fin : EP X pins σ Q w s := ⟨z, H, I, rw', q⟩
  exact subscriptTail_builtinR (x := w) pl.typeIs slot_tuple_getitem.lookup
    (getItem_tuple (j := j) (Q := fun r s' => r = w ∧ EP X pins σ Q r s') pl (by omega) (by omega) (by rw [List.size_toArray, ← hl]; exact h1) (by simpa using ew) ⟨rfl, fin⟩) hs
/-- list, tuple or str -/
def rIx (K : PySem.W.Frag) : R2 := fun x y H Q => rIxL K x y H Q ∨ rIxT K x y H Q ∨ rIxS x y H Q
/-! ### xs[i] = v, any sign -/
/-- the list's object behind a store -/
theorem mapSeq_set (its : List Value) (n j : Nat) (u : Value) : Obj.mapSeq (·.setIfInBounds j u) { cls := .type "list", data := .seq its.toArray n } = { cls := .type "list", data := .seq (its.set j u).toArray n } := by
  simp [Obj.mapSeq]
theorem Inv.lst {pins : List (Addr × Obj)} {σ : St} {H : Hp} {s : Shared} {p : Addr} {xs : List V} (I : Inv X pins σ H s) (h : H p = some (.lst xs)) :
    ∃ (its : List Value) (n : Nat), Vals xs its ∧ s.heap.get? p = some { cls := .type "list", data := .seq its.toArray n } ∧ xs.length ≤ sizeLine := by
  obtain ⟨z, its, n, r, e⟩ := I.hok p _ h
  exact ⟨its, n, r, e, z⟩
/-- the list at p is written by an update of its object -/
theorem Inv.lstUpd {pins : List (Addr × Obj)} {σ : St} {H : Hp} {s : Shared} {p : Addr} {xs ys : List V} {its its' : List Value} {n n' : Nat} {f : Obj → Obj} (I : Inv X pins σ H s) (h : H p = some (.lst xs))
    (ho : s.heap.get? p = some { cls := .type "list", data := .seq its.toArray n }) (hf : f { cls := .type "list", data := .seq its.toArray n } = { cls := .type "list", data := .seq its'.toArray n' }) (r : Vals ys its') (hz : ys.length ≤ sizeLine) (t : Nat) :
    Inv X pins σ (upd H p (.lst ys)) { s with heap := s.heap.update p f, toks := t } := by
  have e : (s.heap.update p f).get? p = some { cls := .type "list", data := .seq its'.toArray n' } := by
    rw [Heap.get?_update_self f ho (by rw [hf] <;> rfl), hf]
  refine I.write (x := p) (e := p) (by rw [h]; trivial) (.inl rfl) (fun b u hb q => (Heap.get?_update_other _ _ (Ne.symm hb)).trans q) ⟨_, e⟩ ?_
  exact ⟨hz, its', n', r, e⟩
def rSetL : V → V → V → Hp → (Hp → Prop) → Prop := fun o i v H Q => ∃ p xs k j, o = .ref p ∧ i = .int k ∧ H p = some (.lst xs) ∧ ixN xs.length k = some j ∧ Q (upd H p (.lst (xs.set j v)))
theorem set_list : PSet X rSetL := by
  intro pins s σ H o i v ov iv u Q I ro ri rv h
  obtain ⟨p, xs, k, j, rfl, rfl, hp, hj, q⟩ := h
  cases ro
  obtain ⟨t, rfl⟩ := ri
  obtain ⟨its, n, r, ho, hz⟩ := I.lst hp
  obtain ⟨h1, h2, h3, h4⟩ := ixN_seq hj
  have hl := r.length
  have hn := line63
  have I' : Inv X pins σ (upd H p (.lst (xs.set j v))) { s with heap := s.heap.update p (Obj.mapSeq (·.setIfInBounds j u)) } :=
    I.lstUpd hp ho (mapSeq_set its n j u) (r.set rv j) (by rw [List.length_set]; exact hz) s.toks
  by_cases h0 : 0 ≤ k
  · have hk : k.toNat = j := by
      rw [seqIndex_of h0 h4] at h1
      exact Option.some.inj h1
    exact PySem.W.ki_setAt ho h0 (by omega) (by rw [List.size_toArray, ← hl]; exact h4) (by rw [hk]; exact ⟨_, I', q⟩)
  · have hk : (k + (its.toArray.size : Int)).toNat = j := by
      rw [seqIndex_neg (by omega) h3] at h1
      rw [List.size_toArray, ← hl]
      exact Option.some.inj h1
    exact PySem.W.ki_setBack ho (by omega) (by rw [List.size_toArray, ← hl]; exact h3) (by omega) (by rw [hk]; exact ⟨_, I', q⟩)

/-! ### slices -/
theorem slice_bounds (lo hi : Option Int) (n : Nat) : (sliceBounds lo hi none n).1 = ((HT.sIx n 0 lo : Nat) : Int) ∧ (sliceBounds lo hi none n).2.1 = ((HT.sIx n n hi : Nat) : Int) ∧ (sliceBounds lo hi none n).2.2 = 1 := by
  refine ⟨?_, ?_, rfl⟩
  · cases lo with
    | none => simp [sliceBounds, HT.sIx]
    | some i =>
      simp only [sliceBounds, HT.sIx, Option.getD_none, show (1 : Int) > 0 by decide, if_true]
      by_cases h : i < 0
      · simp only [h, if_true] <;> omega
      · simp only [h, if_false] <;> omega
  · cases hi with
    | none => simp [sliceBounds, HT.sIx]
    | some i =>
      simp only [sliceBounds, HT.sIx, Option.getD_none, show (1 : Int) > 0 by decide, if_true]
      by_cases h : i < 0
      · simp only [h, if_true] <;> omega
      · simp only [h, if_false] <;> omega
theorem slicePick_cut (its : List Value) (lo hi : Option Int) : slicePick its.toArray lo hi none = ((its.drop (HT.sIx its.length 0 lo)).take (HT.sIx its.length its.length hi - HT.sIx its.length 0 lo)).toArray := by
  obtain ⟨h1, h2, h3⟩ := slice_bounds lo hi its.toArray.size
  unfold slicePick
  rw [h1, h2, h3]
  simp only [sliceRange_one, pick_run, List.size_toArray] <;> rfl
/-- xs[lo:hi] of a list: a new list -/
def rSlL (K : PySem.W.Frag) : V → Option Int → Option Int → Hp → VK → Prop := fun x lo hi H Q => ∃ a xs, x = .ref a ∧ SqL K H a xs ∧ ∀ p, H p = none → Q (.ref p) (upd H p (.lst (cutV xs lo hi)))
theorem sl_list : SlR X (rSlL X.K) := by
  intro pins s σ H x v vl vu lo hi sl Q I rx hs pl pu h
  obtain ⟨a, xs, rfl, hx, q⟩ := h
  cases rx
  obtain ⟨its, r, ht, hz⟩ := I.list hx
  have hlen := r.length
  refine ⟨"list", _, slot_list_getitem.lookup, ht.isList.typeIs, ?_⟩
  refine wpAny_getItem_list_slice ht.isList hs pl pu .none (by simp) ?_ (by rw [List.size_toArray] <;> omega)
  rw [slicePick_cut, ← hlen]
  refine ⟨.ref s.heap.objs.size, _, I.laid (t' := s.toks) (o := .lst (cutV xs lo hi)) (fun b ob q => Heap.get?_push_of_some _ q) (Nat.le_refl _) ?_, rfl, q _ (I.hok.fresh (Nat.le_refl _))⟩
  exact ⟨Nat.le_trans (cutV_length xs lo hi) hz, _, 0, (r.drop (HT.sIx xs.length 0 lo)).take (HT.sIx xs.length xs.length hi - HT.sIx xs.length 0 lo), Heap.get?_push_size _ rfl⟩

/-! ### in, not in: flat items -/
def flatV : V → Bool
  | .non => true
  | .bl _ => true
  | .int _ => true
  | .str _ => true
  | _ => false
/-- == of flat values -/
def eqV : V → V → Bool
  | .non, .non => true
  | .bl a, .bl b => a == b
  | .bl a, .int b => (if a then 1 else 0) == b
  | .int a, .bl b => a == (if b then 1 else 0)
  | .int a, .int b => a == b
  | .str a, .str b => a == b
  | _, _ => false
theorem eqAt_V {A : Around} {s : Shared} {y x : V} {u v : Value} (ry : RelV y u) (rx : RelV x v) (fy : flatV y = true) (fx : flatV x = true) : SeqAt.EqAt A s u v (eqV y x) := by
  cases y with
  | non =>
    cases ry
    cases x with
    | non => cases rx; exact SeqAt.EqAt.same _
    | bl b => cases rx; exact SeqAt.EqAt.none_bool b
    | int b => obtain ⟨t, rfl⟩ := rx; exact SeqAt.EqAt.none_int b t
    | str b => obtain ⟨t, rfl⟩ := rx; exact SeqAt.EqAt.none_str b t
    | _ => exact absurd (show false = true from fx) Bool.false_ne_true
  | bl a =>
    cases ry
    cases x with
    | non => cases rx; exact SeqAt.EqAt.bool_none a
    | bl b => cases rx; exact SeqAt.EqAt.bool_bool a b
    | int b => obtain ⟨t, rfl⟩ := rx; exact SeqAt.EqAt.bool_int a b t
    | str b => obtain ⟨t, rfl⟩ := rx; exact SeqAt.EqAt.bool_str a b t
    | _ => exact absurd (show false = true from fx) Bool.false_ne_true
  | int a =>
    obtain ⟨t', rfl⟩ := ry
    cases x with
    | non => cases rx; exact SeqAt.EqAt.int_none a t'
    | bl b => cases rx; exact SeqAt.EqAt.int_bool a t' b
    | int b => obtain ⟨t, rfl⟩ := rx; exact SeqAt.EqAt.int_int a t' b t
    | str b => obtain ⟨t, rfl⟩ := rx; exact SeqAt.EqAt.int_str a t' b t
    | _ => exact absurd (show false = true from fx) Bool.false_ne_true
  | str a =>
    obtain ⟨t', rfl⟩ := ry
    cases x with
    | non => cases rx; exact SeqAt.EqAt.str_none a t'
    | bl b => cases rx; exact SeqAt.EqAt.str_bool a t' b
    | int b => obtain ⟨t, rfl⟩ := rx; exact SeqAt.EqAt.str_int a t' b t
    | str b => obtain ⟨t, rfl⟩ := rx; exact SeqAt.EqAt.str_str a t' b t
    | _ => exact absurd (show false = true from fx) Bool.false_ne_true
  | _ => exact absurd (show false = true from fy) Bool.false_ne_true
/-- the items' answers, read off the values (a value's own answer does not lean on its token) -/
def eqU (x : V) (u : Value) : Bool := match u with
  | .none => eqV .non x
  | .bool b => eqV (.bl b) x
  | .int i _ => eqV (.int i) x
  | .str z _ => eqV (.str z) x
  | _ => false
theorem eqU_of {x y : V} {u : Value} (r : RelV y u) (f : flatV y = true) : eqU x u = eqV y x := by
  cases y with
  | non => cases r; rfl
  | bl b => cases r; rfl
  | int i => obtain ⟨t, rfl⟩ := r; rfl
  | str z => obtain ⟨t, rfl⟩ := r; rfl
  | _ => exact absurd (show false = true from f) Bool.false_ne_true
theorem any_eqU {x : V} : ∀ {xs : List V} {us : List Value}, Vals xs us → xs.all flatV = true → us.any (eqU x) = xs.any fun y => eqV y x
  | _, _, .nil, _ => rfl
  | y :: xs, u :: us, .cons r t, f => by
    rw [List.all_cons, Bool.and_eq_true] at f
    rw [List.any_cons, List.any_cons, eqU_of r f.1, any_eqU t f.2]
theorem mem_eqAt {A : Around} {s : Shared} {x : V} {v : Value} (rx : RelV x v) (fx : flatV x = true) : ∀ {xs : List V} {us : List Value}, Vals xs us → xs.all flatV = true → ∀ u ∈ us, SeqAt.EqAt A s u v (eqU x u)
  | _, _, .nil, _ => fun u hu => by cases hu
  | y :: xs, u :: us, .cons r t, f => fun u' hu => by
    rw [List.all_cons, Bool.and_eq_true] at f
    rcases List.mem_cons.mp hu with rfl | hu
    · rw [eqU_of r f.1]; exact eqAt_V r rx f.1 fx
    · exact mem_eqAt rx fx t f.2 u' hu
def inV (x : V) (xs : List V) : Bool := xs.any fun y => eqV y x
/-- x in a list or tuple of flat items -/
def rIn (K : PySem.W.Frag) (neg : Bool) : R2 := fun x y H Q => ∃ p xs, y = .ref p ∧ (SqL K H p xs ∨ SqT K H p xs) ∧ flatV x = true ∧ xs.all flatV = true ∧ Q (.bl (if neg then !inV x xs else inV x xs)) H
theorem op_in_seq : OpR X (compareOp .In) (rIn X.K false) := by
  intro pins s σ H x y v u Q I rx ry h
  obtain ⟨p, xs, rfl, hq, fx, fs, q⟩ := h
  cases ry
  rcases hq with hq | hq
  · obtain ⟨its, r, pl, hz⟩ := I.list hq
    refine SeqAt.in_listAt (eqU x) pl.isList (fun w hw => mem_eqAt rx fx r fs w (by simpa using hw)) ⟨.bl _, H, I, rfl, ?_⟩
    rw [show its.toArray.any (eqU x) = its.any (eqU x) by simp, any_eqU r fs]
    exact q
  · obtain ⟨its, r, pl, hz⟩ := I.tuple hq
    refine SeqAt.in_tupleAt (eqU x) pl (fun w hw => mem_eqAt rx fx r fs w (by simpa using hw)) ⟨.bl _, H, I, rfl, ?_⟩
    rw [show its.toArray.any (eqU x) = its.any (eqU x) by simp, any_eqU r fs]
    exact q
/-! ### len, list(x), tuple(x) of any list or tuple that is read -/
theorem call_len_seq : CallR X (.builtin "len") (fun xs H Q => ∃ p ys, xs = [.ref p] ∧ (SqL X.K H p ys ∨ SqT X.K H p ys) ∧ Q (.int ys.length) H) := by
  intro pins s σ H xs us Q I r h
  obtain ⟨p, ys, rfl, hq, q⟩ := h
  obtain ⟨u, rfl, rx⟩ := vals1 r
  cases rx
  have hn := line63
  rcases hq with hq | hq
  · obtain ⟨its, r', pl, hz⟩ := I.list hq
    have hlen := r'.length
    exact Calls.call_len_list pl.isList (by simp only [List.size_toArray] <;> omega) ⟨.int ys.length, H, I.tok _, ⟨s.toks + 1, by rw [List.size_toArray, hlen]⟩, q⟩
  · obtain ⟨its, r', pl, hz⟩ := I.tuple hq
    have hlen := r'.length
    exact len_tuple pl (by simp only [List.size_toArray] <;> omega) ⟨.int ys.length, H, I.tok _, ⟨s.toks + 1, by rw [List.size_toArray, hlen]⟩, q⟩
theorem call_list_of : CallR X (.type "list") (fun xs H Q => ∃ p ys, xs = [.ref p] ∧ (SqL X.K H p ys ∨ SqT X.K H p ys) ∧ ∀ l, H l = none → Q (.ref l) (upd H l (.lst ys))) := by
  intro pins s σ H xs us Q I r h
  obtain ⟨p, ys, rfl, hq, q⟩ := h
  obtain ⟨u, rfl, rx⟩ := vals1 r
  cases rx
  have fin : ∀ (its : List Value), Vals ys its → ys.length ≤ sizeLine → ∀ (h' : Heap) (c' : Nat), (∀ b o', s.heap.get? b = some o' → h'.get? b = some o') →
      h'.get? s.heap.objs.size = some { cls := .type "list", dict := none, data := .seq its.toArray c', slots := #[] } → EP X pins σ Q (.ref s.heap.objs.size) { s with heap := h' } := fun its r' hz h' c' kp e =>
    ⟨.ref s.heap.objs.size, _, I.laid (t' := s.toks) kp (Nat.le_refl _) (show ObjOk X.prog X.w _ h' _ (.lst ys) from ⟨hz, its, c', r', e⟩), rfl, q _ (I.hok.fresh (Nat.le_refl _))⟩
  rcases hq with hq | hq
  · obtain ⟨its, r', pl, hz⟩ := I.list hq
    have hlen := r'.length
    obtain ⟨o, ho, hc, n, hd⟩ := pl.isList
    exact call_list_seq p (.inl rfl) ho hc hd (fun h' c' kp e => fin its r' hz h' c' kp e) (by simp only [List.size_toArray] <;> omega)
  · obtain ⟨its, r', pl, hz⟩ := I.tuple hq
    have hlen := r'.length
    obtain ⟨o, ho, hc, n, hd⟩ := pl
    exact call_list_seq p (.inr rfl) ho hc hd (fun h' c' kp e => fin its r' hz h' c' kp e) (by simp only [List.size_toArray] <;> omega)
/-! ### the call of a builtin's method: o.m(..) -/
/-- the value is of that builtin type -/
def tyV (K : PySem.W.Frag) (T : String) (x : V) (H : Hp) : Prop := match x with
  | .str _ => T = "str"
  | .int _ => T = "int"
  | .ref p => (T = "list" ∧ ∃ xs, SqL K H p xs) ∨ (T = "tuple" ∧ ∃ o, K.lookup p = some o ∧ o.cls = .type "tuple" ∧ o.dict = none) ∨
      (T = "dict" ∧ ((∃ kvs, H p = some (.dK kvs)) ∨ ∃ kvs, H p = some (.dT kvs))) ∨ (T = "set" ∧ ∃ S n, H p = some (.set S n))
  | _ => False
theorem tyV_is {pins : List (Addr × Obj)} {σ : St} {H : Hp} {s : Shared} {T : String} {x : V} {v : Value} (I : Inv X pins σ H s) (r : RelV x v) (ty : tyV X.K T x H) :
    s.TypeIs v T ∧ ∀ a, v = .ref a → ∃ ob, s.heap.get? a = some ob ∧ ob.dict = none := by
  cases x with
  | str z =>
    obtain ⟨t, rfl⟩ := r
    cases (show T = "str" from ty)
    exact ⟨typeIs_str s z t, fun _ e => nomatch e⟩
  | int i =>
    obtain ⟨t, rfl⟩ := r
    cases (show T = "int" from ty)
    exact ⟨typeIs_int s i t, fun _ e => nomatch e⟩
  | ref p =>
    cases r
    rcases ty with ⟨rfl, xs, hq⟩ | ⟨rfl, o, hk, hc, hd⟩ | ⟨rfl, hk⟩ | ⟨rfl, S, n, hk⟩
    · obtain ⟨its, _, pl, _⟩ := I.list hq
      refine ⟨pl.isList.typeIs, fun a e => ?_⟩
      cases e
      obtain ⟨o, n, e, c, hd, _⟩ := pl
      exact ⟨o, e, hd⟩
    · refine ⟨⟨o, I.kIn p o hk, hc⟩, fun a e => ?_⟩
      cases e
      exact ⟨o, I.kIn _ o hk, hd⟩
    · have z : ∃ o, s.heap.get? p = some o ∧ o.ExactDict := by
        rcases hk with ⟨kvs, hk⟩ | ⟨kvs, hk⟩
        · obtain ⟨_, _, _, _, o, _, _, e, ex, _⟩ := I.hok p _ hk
          exact ⟨o, e, ex⟩
        · obtain ⟨_, _, _, _, o, _, _, e, ex, _⟩ := I.hok p _ hk
          exact ⟨o, e, ex⟩
      obtain ⟨o, e, ex⟩ := z
      refine ⟨⟨o, e, ex.1⟩, fun a e2 => ?_⟩
      cases e2
      exact ⟨o, e, ex.2.1⟩
    · obtain ⟨o, _, _, _, e, ex, _⟩ := I.hok p _ hk
      refine ⟨⟨o, e, ex.1⟩, fun a e2 => ?_⟩
      cases e2
      exact ⟨o, e, ex.2.1⟩
  | _ => exact False.elim ty
def tBM0 (K : PySem.W.Frag) (T : String) (r : V → List V → Hp → VK → Prop) (to : TE) : TE := fun σ H Q => to σ H fun x H1 => tyV K T x H1 ∧ r x [] H1 Q
def tBM (K : PySem.W.Frag) (T : String) (r : V → List V → Hp → VK → Prop) (to : TE) (t : TA) : TE := fun σ H Q => to σ H fun x H1 => tyV K T x H1 ∧ t σ H1 fun xs H2 => r x xs H2 Q
variable {o e : Expr} {es : List Expr} {to : TE} {t : TA} {name : Str} {apos cpos : Pos} {T id : String} {r : V → List V → Hp → VK → Prop}
theorem pe_bm0 (pa : PlainAttrs T) (slot : Slot T name id) (hty : typeOf (.builtin id) = pure (.type "method_descriptor")) (hm : MtR X id r) (ho : PE X o to)
    (hbase : attributeBase o name X.env (eval o X.env) = eval o X.env := by rfl) (hline : (apos.endLine == cpos.line) = true := by rfl) : PE X (.Call (.Attribute o name apos) [] [] cpos) (tBM0 X.K T r to) := by
  intro pins s σ H Q I h
  refine wpAny_Call_method0_late hbase hline (thn (ho pins s σ H _ I h) fun v s1 hz_ => ?_)
  obtain ⟨x, H1, I1, r1, ty, q1⟩ := hz_
  obtain ⟨h1, h2⟩ := tyV_is I1 r1 ty
  exact ⟨T, id, pa, slot, hty, h1, h2, Calls.callWith_builtin rfl (PySem.evalArgs_none (hm pins s1 σ H1 x [] v [] Q I1 r1 .nil q1))⟩
theorem pe_bm (pa : PlainAttrs T) (slot : Slot T name id) (hty : typeOf (.builtin id) = pure (.type "method_descriptor")) (hm : MtR X id r) (ho : PE X o to) (ha : PA X (e :: es) t)
    (hbase : attributeBase o name X.env (eval o X.env) = eval o X.env := by rfl)
    (hfew : ((backTo cpos (starEach (e :: es) X.env)).all (fun x => !x.1) && (backToKw cpos (keywordEach [] X.env)).all (fun x => x.1.isSome)
      && decide ((e :: es).length + ([] : List Keyword).length + (if ([] : List Keyword).isEmpty then 0 else 1) < 30)) = true := by rfl)
    (hline : (apos.endLine == cpos.line) = true := by rfl) (hs : starEach (e :: es) X.env = (false, eval e X.env) :: starEach es X.env := by rfl) (hplain : (backTo cpos (starEach es X.env)).any (·.1) = false := by rfl) :
    PE X (.Call (.Attribute o name apos) (e :: es) [] cpos) (tBM X.K T r to t) := by
  intro pins s σ H Q I h
  refine wpAny_Call_method_late hbase hfew hline rfl (thn (ho pins s σ H _ I h) fun v s1 hz_ => ?_)
  obtain ⟨x, H1, I1, r1, ty, q1⟩ := hz_
  obtain ⟨h1, h2⟩ := tyV_is I1 r1 ty
  refine ⟨T, id, pa, slot, hty, h1, h2, ?_⟩
  have hA := ha cpos pins s1 σ H1 _ I1 q1
  rw [hs] at hA ⊢
  refine Calls.callWith_builtin (by show (false || (backTo cpos (starEach es X.env)).any (·.1)) = false; rw [hplain] <;> rfl) (Calls.evalArgs_plain ?_)
  refine thn hA fun us s2 hz_ => ?_
  obtain ⟨vs, H2, I2, r2, q2⟩ := hz_
  exact hm pins s2 σ H2 x vs v us Q I2 r1 r2 q2
/- xs.append(e), list.index on a module's tuple .. are MtR facts of 06m -/
end
end L2

namespace L2
open PySem PySem.Spec PyProof.Rows

def MtM (X : Cx) (id : String) (r : V → List V → Hp → VK → Prop) : Prop :=
  ∀ (pins : List (Addr × Obj)) (s : Shared) (σ : St) (H : Hp) (x : V) (xs : List V) (v : Value) (us : List Value) (Q : VK), Inv X pins σ H s → RelV x v → Vals xs us → r x xs H Q →
    wpAny (model X.prog X.w) X.A (call (.builtin id) (v :: us)) (EP X pins σ Q) X.xe s

/-! ### lists of values -/
theorem Vals.one : ∀ {x : V} {us : List Value}, Vals [x] us → ∃ u, us = [u] ∧ RelV x u
  | _, _, .cons r .nil => ⟨_, rfl, r⟩
theorem Vals.zero : ∀ {us : List Value}, Vals [] us → us = []
  | _, .nil => rfl
theorem Vals.dropLast {xs : List V} {us : List Value} (h : Vals xs us) : Vals xs.dropLast us.dropLast := by
  induction h with
  | nil => exact .nil
  | cons r t ih =>
    cases t with
    | nil => exact .nil
    | cons q t' => exact .cons r ih
theorem Vals.eraseIdx : ∀ {xs : List V} {us : List Value} (i : Nat), Vals xs us → Vals (xs.eraseIdx i) (us.eraseIdx i)
  | _, _, _, .nil => .nil
  | _, _, 0, .cons _ t => t
  | _, _, i + 1, .cons r t => .cons r (Vals.eraseIdx i t)
theorem erase_last {α : Type} (l : List α) : l.eraseIdx (l.length - 1) = l.dropLast := by
  induction l with
  | nil => rfl
  | cons a r ih =>
    cases r with
    | nil => rfl
    | cons b r =>
      have e : (a :: b :: r).length - 1 = ((b :: r).length - 1) + 1 := by
        have h1 : (a :: b :: r).length = r.length + 2 := rfl
        have h2 : (b :: r).length = r.length + 1 := rfl
        omega
      rw [e, List.eraseIdx_cons_succ, ih]
      all_goals rfl
theorem len_erase {α : Type} : ∀ (l : List α) (i : Nat), (l.eraseIdx i).length ≤ l.length
  | [], _ => Nat.le_refl _
  | _ :: _, 0 => Nat.le_succ _
  | _ :: r, i + 1 => Nat.succ_le_succ (len_erase r i)
section
variable {X : Cx} {pins : List (Addr × Obj)} {σ : St} {H : Hp} {s : Shared} {l b : Addr} {xs ys zs : List V}

/-! ### the two steps: a tracked list is rewritten, a new list is laid -/
theorem Inv.lset {its its' : List Value} {n : Nat} {f : Array Value → Array Value} {t' : Nat} (I : Inv X pins σ H s) (hH : H l = some (.lst xs))
    (e : s.heap.get? l = some { cls := .type "list", data := .seq its.toArray n }) (hf : f its.toArray = its'.toArray) (hv : Vals ys its') (hz : ys.length ≤ sizeLine) :
    Inv X pins σ (upd H l (.lst ys)) { s with heap := s.heap.update l (Obj.mapSeq f), toks := t' } := by
  have q := PySem.IsL.update e f
  rw [hf] at q
  refine I.write (x := l) (e := l) (by rw [hH]; exact trivial) (.inl rfl) (fun b' u hb hu => (Heap.get?_update_other s.heap (Obj.mapSeq f) (Ne.symm hb)).trans hu) ⟨_, q⟩ ?_
  exact ⟨hz, its', _, hv, q⟩
theorem Inv.lnew {its : List Value} {t' : Nat} (I : Inv X pins σ H s) (hv : Vals ys its) (hz : ys.length ≤ sizeLine) :
    Inv X pins σ (upd H s.heap.objs.size (.lst ys)) { s with heap := s.heap.push { cls := .type "list", data := .seq its.toArray }, toks := t' } :=
  I.laid (fun _ _ q => Heap.get?_push_of_some _ q) (Nat.le_refl _) ⟨hz, its, 0, hv, Heap.get?_push_size _ rfl⟩
theorem Inv.fresh (I : Inv X pins σ H s) : H s.heap.objs.size = none := I.hok.fresh (Nat.le_refl _)
theorem Inv.lstM (I : Inv X pins σ H s) (hH : H l = some (.lst xs)) : xs.length ≤ sizeLine ∧ ∃ (its : List Value) (n : Nat), Vals xs its ∧ xs.length = its.length ∧ s.heap.get? l = some { cls := .type "list", data := .seq its.toArray n } := by
  obtain ⟨z, its, n, r, e⟩ := I.hok l _ hH
  exact ⟨z, its, n, r, r.length, e⟩

theorem notLongL {n : Nat} (h : n ≤ sizeLine) : Builtin.List.listTooLong n = false := by
  unfold Builtin.List.listTooLong
  exact decide_eq_false (by omega)
end

section
variable {X : Cx}

/-! ### methods -/
def rAppend : V → List V → Hp → VK → Prop := fun x vs H Q => ∃ l xs y, x = .ref l ∧ vs = [y] ∧ H l = some (.lst xs) ∧ xs.length < sizeLine ∧ Q .non (upd H l (.lst (xs ++ [y])))
theorem mt_append : MtM X "list.append" rAppend := by
  intro pins s σ H x vs v us Q I rx rv h
  obtain ⟨l, xs, y, rfl, rfl, hH, hz, q⟩ := h
  cases rx
  obtain ⟨u, rfl, ru⟩ := rv.one
  obtain ⟨z, its, n, r, hl, e⟩ := I.lstM hH
  refine call_meets F.slot_list_append ⟨_, e, rfl⟩ F.entry_list_append (F.args_list_append_2 _ _) (PySem.list_append l its.toArray n u (by rw [List.size_toArray]; omega)) ⟨e, ?_⟩
  refine ⟨.non, _, I.lset (its' := its ++ [u]) hH e (by simp) (r.append (.cons ru .nil)) ?_, rfl, q⟩
  rw [List.length_append, List.length_singleton]
  omega

def rExtend : V → List V → Hp → VK → Prop := fun x vs H Q => ∃ l b xs zs, x = .ref l ∧ vs = [.ref b] ∧ H l = some (.lst xs) ∧ H b = some (.lst zs) ∧ xs.length + zs.length ≤ sizeLine ∧ Q .non (upd H l (.lst (xs ++ zs)))
theorem mt_extend : MtM X "list.extend" rExtend := by
  intro pins s σ H x vs v us Q I rx rv h
  obtain ⟨l, b, xs, zs, rfl, rfl, hH, hB, hz, q⟩ := h
  cases rx
  obtain ⟨u, rfl, ru⟩ := rv.one
  cases ru
  obtain ⟨z, its, n, r, hl, e⟩ := I.lstM hH
  obtain ⟨z2, its2, n2, r2, hl2, e2⟩ := I.lstM hB
  have hsz : its.toArray.size + its2.toArray.size ≤ sizeLine := by rw [List.size_toArray, List.size_toArray]; omega
  have hlong : ¬ (!its.toArray.isEmpty && Builtin.List.listTooLong (its.toArray.size + its2.toArray.size)) = true := by
    rw [notLongL hsz, Bool.and_false]
    exact Bool.false_ne_true
  refine call_meets F.slot_list_extend ⟨_, e, rfl⟩ F.entry_list_extend (F.args_list_extend_2 _ _)
    (AutoSeq1.list_extend_list_list_0 l its.toArray n b its2.toArray n2 hlong (by rw [List.size_toArray]; omega) (by omega)) ⟨e, e2, ?_⟩
  refine ⟨.non, _, I.lset (its' := its ++ its2) hH e (by simp) (r.append r2) ?_, rfl, q⟩
  rw [List.length_append]
  omega

def rPop : V → List V → Hp → VK → Prop := fun x vs H Q => ∃ l xs y, x = .ref l ∧ vs = [] ∧ H l = some (.lst xs) ∧ xs[xs.length - 1]? = some y ∧ Q y (upd H l (.lst xs.dropLast))
theorem mt_pop : MtM X "list.pop" rPop := by
  intro pins s σ H x vs v us Q I rx rv h
  obtain ⟨l, xs, y, rfl, rfl, hH, hy, q⟩ := h
  cases rx
  have hus := rv.zero
  subst hus
  obtain ⟨z, its, n, r, hl, e⟩ := I.lstM hH
  obtain ⟨u, hu, ru⟩ := r.get hy
  have hy' : its.toArray[its.toArray.size - 1]? = some u := by
    show its.toArray[its.length - 1]? = some u
    rw [← Array.getElem?_toList, ← hl]
    exact hu
  refine call_meets F.slot_list_pop ⟨_, e, rfl⟩ F.entry_list_pop (F.args_list_pop_1 _) (MeetsSeq.list_pop_last l its.toArray n u hy' (by rw [List.size_toArray]; omega)) ⟨e, ?_⟩
  refine ⟨y, _, I.lset (its' := its.dropLast) hH e ?_ r.dropLast ?_, ru, q⟩
  · show its.toArray.eraseIdxIfInBounds (its.toArray.size - 1) = its.dropLast.toArray
    rw [List.size_toArray, List.eraseIdxIfInBounds_toArray, erase_last]
  · rw [List.length_dropLast]
    omega

def rPopAt : V → List V → Hp → VK → Prop := fun x vs H Q => ∃ l xs i k y, x = .ref l ∧ vs = [.int i] ∧ H l = some (.lst xs) ∧ -(2 ^ 63) ≤ i ∧ i < 2 ^ 63 ∧ seqIndex? i xs.length = some k ∧ xs[k]? = some y ∧ Q y (upd H l (.lst (xs.eraseIdx k)))
theorem mt_popAt : MtM X "list.pop" rPopAt := by
  intro pins s σ H x vs v us Q I rx rv h
  obtain ⟨l, xs, i, k, y, rfl, rfl, hH, h1, h2, hk, hy, q⟩ := h
  cases rx
  obtain ⟨u, rfl, ru⟩ := rv.one
  obtain ⟨t, rfl⟩ := ru
  obtain ⟨z, its, n, r, hl, e⟩ := I.lstM hH
  obtain ⟨w, hw, rw'⟩ := r.get hy
  refine call_meets F.slot_list_pop ⟨_, e, rfl⟩ F.entry_list_pop (F.args_list_pop_2 _ _)
    (MeetsSeq.list_pop_at l its.toArray n i t k w (fitsIndex_both h1 h2) (by rw [List.size_toArray, ← hl]; exact hk) (by rw [← Array.getElem?_toList]; exact hw) (by rw [List.size_toArray]; omega)) ⟨e, ?_⟩
  refine ⟨y, _, I.lset (its' := its.eraseIdx k) hH e ?_ (r.eraseIdx k) ?_, rw', q⟩
  · show its.toArray.eraseIdxIfInBounds k = (its.eraseIdx k).toArray
    rw [List.eraseIdxIfInBounds_toArray]
  · have := len_erase xs k
    omega

def rReverse : V → List V → Hp → VK → Prop := fun x vs H Q => ∃ l xs, x = .ref l ∧ vs = [] ∧ H l = some (.lst xs) ∧ Q .non (upd H l (.lst xs.reverse))
def rClear : V → List V → Hp → VK → Prop := fun x vs H Q => ∃ l xs, x = .ref l ∧ vs = [] ∧ H l = some (.lst xs) ∧ Q .non (upd H l (.lst []))
theorem mt_clear : MtM X "list.clear" rClear := by
  intro pins s σ H x vs v us Q I rx rv h
  obtain ⟨l, xs, rfl, rfl, hH, q⟩ := h
  cases rx
  have hus := rv.zero
  subst hus
  obtain ⟨z, its, n, r, hl, e⟩ := I.lstM hH
  refine call_meets F.slot_list_clear ⟨_, e, rfl⟩ F.entry_list_clear (F.args_list_clear_1 _) (AutoSeq1.list_clear_list_0 l its.toArray n (by rw [List.size_toArray]; omega)) ⟨e, ?_⟩
  exact ⟨.non, _, I.lset (its' := []) (ys := []) hH e rfl .nil (Nat.zero_le _), rfl, q⟩

/-! ### list + list, list += list, list * int -/
def rCat : R2 := fun x y H Q => ∃ l b xs zs, x = .ref l ∧ y = .ref b ∧ H l = some (.lst xs) ∧ H b = some (.lst zs) ∧ xs.length + zs.length ≤ sizeLine ∧ ∀ p, H p = none → Q (.ref p) (upd H p (.lst (xs ++ zs)))
theorem op_cat : OpR X (binaryOp .Add) rCat := by
  intro pins s σ H x y v u Q I rx ry h
  obtain ⟨l, b, xs, zs, rfl, rfl, hH, hB, hz, q⟩ := h
  cases rx
  cases ry
  obtain ⟨z, its, n, r, hl, e⟩ := I.lstM hH
  obtain ⟨z2, its2, n2, r2, hl2, e2⟩ := I.lstM hB
  refine PySem.P.add_list e e2 ?_ (by rw [List.size_toArray, List.size_toArray]; omega)
  have ea : its.toArray ++ its2.toArray = (its ++ its2).toArray := by simp
  rw [ea]
  exact ⟨.ref _, _, I.lnew (t' := s.toks) (r.append r2) (by rw [List.length_append]; omega), rfl, q _ I.fresh⟩
/-- a list times an int (a negative one is nothing) -/
def rRep : R2 := fun x y H Q => ∃ l k xs, x = .ref l ∧ y = .int k ∧ H l = some (.lst xs) ∧ -(2 ^ 63) ≤ k ∧ k < 2 ^ 63 ∧ xs.length * k.toNat ≤ sizeLine ∧
  ∀ p, H p = none → Q (.ref p) (upd H p (.lst (List.replicate k.toNat xs).flatten))
/-! ### del xs[i] -/
end

/-! ### xs[a:b] = ys -/
section
variable {prog : Program} {w : World} {A : Around} {E : Value → Shared → Prop} {s : Shared}
end

section
variable {X : Cx}
end
end L2

namespace L2
open PySem PySem.Spec PyProof.Rows

/-! ### lists of pairs as tables -/
section
variable {κ : Type} [DecidableEq κ]
def valV (kvs : List (κ × V)) (k : κ) : Option V := (kvs.find? fun kv => decide (kv.1 = k)).map (·.2)
/-- in its place, or at the end -/
def putK (kvs : List (κ × V)) (k : κ) (v : V) : List (κ × V) :=
  if (kvs.any fun kv => decide (kv.1 = k)) = true then kvs.map (fun kv => if kv.1 = k then (kv.1, v) else kv) else kvs ++ [(k, v)]
def dropK (kvs : List (κ × V)) (k : κ) : List (κ × V) := kvs.filter fun kv => decide (kv.1 ≠ k)

theorem valV_pos {p : κ × V} {r : List (κ × V)} {k : κ} (e : p.1 = k) : valV (p :: r) k = some p.2 := by simp [valV, List.find?_cons, e]
theorem valV_neg {p : κ × V} {r : List (κ × V)} {k : κ} (e : ¬ p.1 = k) : valV (p :: r) k = valV r k := by simp [valV, List.find?_cons, e]
theorem valV_any (k : κ) : ∀ kvs : List (κ × V), (kvs.any fun kv => decide (kv.1 = k)) = (valV kvs k).isSome
  | [] => rfl
  | p :: r => by
    rw [List.any_cons]
    by_cases e : p.1 = k
    · simp only [valV_pos e, decide_eq_true e, Bool.true_or, Option.isSome_some]
    · rw [valV_neg e, decide_eq_false e, Bool.false_or]; exact valV_any k r
theorem length_putK (kvs : List (κ × V)) (k : κ) (v : V) : (putK kvs k v).length ≤ kvs.length + 1 := by
  unfold putK
  split
  · rw [List.length_map]; omega
  · rw [List.length_append, List.length_cons, List.length_nil]; omega
theorem putK_new {kvs : List (κ × V)} {k : κ} (v : V) (h : valV kvs k = none) : putK kvs k v = kvs ++ [(k, v)] := by
  unfold putK
  rw [valV_any, h]
  exact if_neg (by decide)

theorem RelO.isSome_eq {o : Option V} {u : Option Value} (r : RelO o u) : o.isSome = u.isSome := by
  cases o with
  | none => cases u with
    | none => rfl
    | some _ => exact (show False from r).elim
  | some _ => cases u with
    | none => exact (show False from r).elim
    | some _ => rfl
theorem RelO.getD {o : Option V} {u : Option Value} {d : V} {d' : Value} (r : RelO o u) (rd : RelV d d') : RelV (o.getD d) (u.getD d') := by
  cases o with
  | none => cases u with
    | none => exact rd
    | some _ => exact (show False from r).elim
  | some _ => cases u with
    | none => exact (show False from r).elim
    | some _ => exact r

/-- raw tables of the same keys -/
theorem KV.val {kvs : List (κ × V)} {vs : List (κ × Value)} (r : KV kvs vs) (k : κ) : RelO (valV kvs k) (valueAt vs k) := by
  unfold KV at r
  induction r with
  | nil => exact True.intro
  | @cons p q ps qs h t ih =>
    obtain ⟨h1, h2⟩ := h
    by_cases e : p.1 = k
    · have e' : q.1 = k := h1.symm.trans e
      have b : valueAt (q :: qs) k = some q.2 := by simp [valueAt, List.find?_cons, e']
      rw [valV_pos e, b]; exact h2
    · have e' : ¬ q.1 = k := fun z => e (h1.trans z)
      have b : valueAt (q :: qs) k = valueAt qs k := by simp [valueAt, List.find?_cons, e']
      rw [valV_neg e, b]; exact ih
theorem KV.any {kvs : List (κ × V)} {vs : List (κ × Value)} (r : KV kvs vs) (k : κ) : (kvs.any fun kv => decide (kv.1 = k)) = vs.any fun kv => decide (kv.1 = k) := by
  unfold KV at r
  induction r with
  | nil => rfl
  | cons h t ih => rw [List.any_cons, List.any_cons, ih, h.1]
theorem KV.repl {kvs : List (κ × V)} {vs : List (κ × Value)} (r : KV kvs vs) (k : κ) {y : V} {u : Value} (ry : RelV y u) :
    KV (kvs.map fun kv => if kv.1 = k then (kv.1, y) else kv) (vs.map fun kv => if kv.1 = k then (kv.1, u) else kv) := by
  unfold KV at r ⊢
  induction r with
  | nil => exact .nil
  | @cons p q ps qs h t ih =>
    rw [List.map_cons, List.map_cons]
    refine .cons ?_ ih
    obtain ⟨h1, h2⟩ := h
    by_cases e : p.1 = k
    · rw [if_pos e, if_pos (h1.symm.trans e)]; exact ⟨h1, ry⟩
    · rw [if_neg e, if_neg (fun z => e (h1.trans z))]; exact ⟨h1, h2⟩
theorem KV.put {kvs : List (κ × V)} {vs : List (κ × Value)} (r : KV kvs vs) (k : κ) {y : V} {u : Value} (ry : RelV y u) : KV (putK kvs k y) (stored vs k u) := by
  unfold putK stored
  rw [r.any k]
  by_cases e : (vs.any fun kv => decide (kv.1 = k)) = true
  · rw [if_pos e, if_pos e]; exact r.repl k ry
  · rw [if_neg e, if_neg e]; exact Paired.snoc r ⟨rfl, ry⟩
theorem KV.drop {kvs : List (κ × V)} {vs : List (κ × Value)} (r : KV kvs vs) (k : κ) : KV (dropK kvs k) (without vs k) := by
  unfold KV at r ⊢
  unfold dropK without
  induction r with
  | nil => exact .nil
  | @cons p q ps qs h t ih =>
    obtain ⟨h1, h2⟩ := h
    rw [List.filter_cons, List.filter_cons]
    by_cases e : p.1 = k
    · have a : ¬ decide (p.1 ≠ k) = true := by simp [e]
      have b : ¬ decide (q.1 ≠ k) = true := by simp [h1.symm.trans e]
      rw [if_neg a, if_neg b]; exact ih
    · have e' : ¬ q.1 = k := fun z => e (h1.trans z)
      have a : decide (p.1 ≠ k) = true := by simp [e]
      have b : decide (q.1 ≠ k) = true := by simp [e']
      rw [if_pos a, if_pos b]; exact .cons ⟨h1, h2⟩ ih
theorem KV.length {kvs : List (κ × V)} {vs : List (κ × Value)} (r : KV kvs vs) : kvs.length = vs.length := Paired.length r
end


/-! ### a tracked dict, its keys ints and texts or tuples of these -/
theorem kV_is {P : Program} {w : World} {k : Key} {u : Value} (r : RelV (kV k) u) : (mixKind P w).is k u = true := by
  cases k with
  | inl i => obtain ⟨t, e⟩ := (show ∃ t, u = Value.int i t from r); subst e; exact mixKind_int P w i t
  | inr x => obtain ⟨t, e⟩ := (show ∃ t, u = Value.str x t from r); subst e; exact mixKind_str P w x t
theorem items_are {P : Program} {w : World} : ∀ {ks : List Key} {us : List Value}, Vals (ks.map kV) us → ItemsAre (mixKind P w) ks us
  | [], _, r => by rw [List.map_nil] at r; cases r; exact .nil
  | k :: ks, _, r => by
    rw [List.map_cons] at r
    cases r with
    | cons h t => exact .cons (kV_is h) (items_are t)

/-- raw entries of a dict with tuple keys -/
abbrev KT (H : Hp) : List (List Key × V) → List (List Key × Addr × Value) → Prop := Paired fun p q => p.1 = q.1 ∧ H q.2.1 = some (.tup (p.1.map kV)) ∧ RelV p.2 q.2.2
theorem KT.val {H : Hp} {kvs : List (List Key × V)} {xs : List (List Key × Addr × Value)} (r : KT H kvs xs) (k : List Key) : RelO (valV kvs k) ((atKey xs k).map (·.2)) := by
  induction r with
  | nil => exact True.intro
  | @cons p q ps qs h t ih =>
    obtain ⟨h1, _, h2⟩ := h
    by_cases e : p.1 = k
    · have e' : q.1 = k := h1.symm.trans e
      have b : atKey (q :: qs) k = some q.2 := by simp [atKey, List.find?_cons, e']
      rw [valV_pos e, b]; exact h2
    · have e' : ¬ q.1 = k := fun z => e (h1.trans z)
      have b : atKey (q :: qs) k = atKey qs k := by simp [atKey, List.find?_cons, e']
      rw [valV_neg e, b]; exact ih
theorem KT.repl {H : Hp} {kvs : List (List Key × V)} {xs : List (List Key × Addr × Value)} (r : KT H kvs xs) (k : List Key) {y : V} {u : Value} (ry : RelV y u) :
    KT H (kvs.map fun kv => if kv.1 = k then (kv.1, y) else kv) (xs.map (putAt k u)) := by
  induction r with
  | nil => exact .nil
  | @cons p q ps qs h t ih =>
    rw [List.map_cons, List.map_cons]
    refine .cons ?_ ih
    obtain ⟨h1, h2, h3⟩ := h
    unfold putAt
    by_cases e : p.1 = k
    · rw [if_pos e, if_pos (h1.symm.trans e)]; exact ⟨h1, h2, ry⟩
    · rw [if_neg e, if_neg (fun z => e (h1.trans z))]; exact ⟨h1, h2, h3⟩
theorem KT.put {H : Hp} {kvs : List (List Key × V)} {xs : List (List Key × Addr × Value)} (r : KT H kvs xs) (k : List Key) {b : Addr} {y : V} {u : Value} (hb : H b = some (.tup (k.map kV))) (ry : RelV y u) :
    KT H (putK kvs k y) (storedH xs k b u) := by
  have e : (kvs.any fun kv => decide (kv.1 = k)) = (atKey xs k).isSome := by
    rw [valV_any, (r.val k).isSome_eq, Option.isSome_map]
  unfold putK storedH
  rw [e]
  by_cases q : (atKey xs k).isSome = true
  · rw [if_pos q, if_pos q]; exact r.repl k ry
  · rw [if_neg q, if_neg q]; exact Paired.snoc r ⟨rfl, hb, ry⟩
theorem KT.keeps {H H' : Hp} {kvs : List (List Key × V)} {xs : List (List Key × Addr × Value)} (r : KT H kvs xs) (ht : ∀ b ys, H b = some (.tup ys) → H' b = some (.tup ys)) : KT H' kvs xs :=
  Paired.mapP r fun _ _ z => ⟨z.1, ht _ _ z.2.1, z.2.2⟩

section
variable {P : Program} {w : World} {H : Hp} {h : Heap} {a : Addr}
theorem rd_of {u : HO} (ok : HOk P w H h) (e : Rd H a u) : ObjOk P w H h a u := e.ok ok
theorem dk_rd {kvs : List (Key × V)} (ok : HOk P w H h) (e : Rd H a (.dK kvs)) : kvs.length ≤ sizeLine ∧ (a == sysModules) = false ∧ ∃ vs, KV kvs vs ∧ h.DictOf (mixKind P w) a vs :=
  show ObjOk P w H h a (.dK kvs) from rd_of ok e
theorem dk_of {kvs : List (Key × V)} (ok : HOk P w H h) (e : H a = some (.dK kvs)) : kvs.length ≤ sizeLine ∧ (a == sysModules) = false ∧ ∃ vs, KV kvs vs ∧ h.DictOf (mixKind P w) a vs := dk_rd ok (.inl e)
/-- a tracked tuple of ints and texts is a key -/
theorem key_of {ks : List Key} (ok : HOk P w H h) (e : H a = some (.tup (ks.map kV))) : (tupleKind (mixKind P w)).is h ks a := by
  obtain ⟨_, its, r, o, h1, h2, n, h3⟩ := (show ObjOk P w H h a (.tup (ks.map kV)) from ok a _ e)
  exact ⟨o, its.toArray, n, h1, h2, h3, by simpa using items_are r⟩
theorem dt_rd {kvs : List (List Key × V)} (ok : HOk P w H h) (e : Rd H a (.dT kvs)) : kvs.length ≤ sizeLine ∧ (a == sysModules) = false ∧
    ∃ xs, KT H kvs xs ∧ h.DictOfH (tupleKind (mixKind P w)) a xs := by
  obtain ⟨z, y, xs, r, o, es, ep, h1, h2, h3, h4, h5⟩ := (show ObjOk P w H h a (.dT kvs) from rd_of ok e)
  refine ⟨z, y, xs, r, o, es, ep, h1, h2, h3, h4, fun x hx => ?_, h5⟩
  have all : ∀ {l : List (List Key × V)} {m : List (List Key × Addr × Value)}, KT H l m → ∀ x ∈ m, (tupleKind (mixKind P w)).is h x.1 x.2.1 := by
    intro l m q
    induction q with
    | nil => intro x hx; exact nomatch hx
    | @cons p q ps qs hq t ih =>
      intro x hx
      rcases List.mem_cons.mp hx with e | hx
      · subst e
        exact key_of ok (by rw [← hq.1]; exact hq.2.1)
      · exact ih x hx
  exact all r x hx
theorem dt_of {kvs : List (List Key × V)} (ok : HOk P w H h) (e : H a = some (.dT kvs)) : kvs.length ≤ sizeLine ∧ (a == sysModules) = false ∧
    ∃ xs, KT H kvs xs ∧ h.DictOfH (tupleKind (mixKind P w)) a xs := dt_rd ok (.inl e)
end

/-- what the dict at a holds at the key y -/
def DGet (H : Hp) (a : Addr) (y : V) (r : Option V) : Prop :=
  (∃ kvs k, Rd H a (.dK kvs) ∧ y = kV k ∧ r = valV kvs k) ∨ ∃ kvs k b, Rd H a (.dT kvs) ∧ y = .ref b ∧ H b = some (.tup (k.map kV)) ∧ r = valV kvs k
/-- the heap behind a[y] = v -/
def DPut (H : Hp) (a : Addr) (y v : V) (H' : Hp) : Prop :=
  (∃ kvs k, H a = some (.dK kvs) ∧ y = kV k ∧ kvs.length < sizeLine ∧ H' = upd H a (.dK (putK kvs k v))) ∨
  ∃ kvs k b, H a = some (.dT kvs) ∧ y = .ref b ∧ H b = some (.tup (k.map kV)) ∧ kvs.length < sizeLine ∧ H' = upd H a (.dT (putK kvs k v))
theorem DGet.k {H : Hp} {a : Addr} {kvs : List (Key × V)} {k : Key} (e : H a = some (.dK kvs)) : DGet H a (kV k) (valV kvs k) := .inl ⟨kvs, k, .inl e, rfl, rfl⟩
theorem DPut.k {H : Hp} {a : Addr} {kvs : List (Key × V)} {k : Key} {v : V} (e : H a = some (.dK kvs)) (hl : kvs.length < sizeLine) : DPut H a (kV k) v (upd H a (.dK (putK kvs k v))) := .inl ⟨kvs, k, e, rfl, hl, rfl⟩
section
variable {X : Cx} {pins : List (Addr × Obj)} {σ : St} {H : Hp} {s : Shared} {a : Addr} {y v : V} {u r : Value} {o : Option V} {A : Around} {E : Value → Shared → Prop}

theorem Inv.big (I : Inv X pins σ H s) : sysModules < s.heap.objs.size := by
  have h : mainGlobals < s.heap.objs.size := (I.mod.glob.keeps I.bk).lt
  exact Nat.lt_trans (by decide) h

/-- d[y], there -/
theorem d_getItem {Q : Value → Shared → Prop} (hu : A.units + 1 < cLine) (I : Inv X pins σ H s) (g : DGet H a y (some v)) (ry : RelV y u) (h : ∀ w' s', Inv X pins σ H s' → RelV v w' → Q w' s') :
    wpAny (model X.prog X.w) A (getItem (.ref a) u) Q E s := by
  rcases g with ⟨kvs, k, e, ey, l⟩ | ⟨kvs, k, b, e, ey, eb, l⟩
  · subst ey
    obtain ⟨z, hd, vs, rel, dd⟩ := dk_rd I.hok e
    obtain ⟨w', hw, rw'⟩ := RelO.some_of (v := v) (o := valueAt vs k) (by rw [l]; exact rel.val k)
    exact wpAny_getItem_of (kV_is ry) dd.mapOf hw (h w' _ (I.tok _) rw')
  · subst ey
    cases (show u = Value.ref b from ry)
    obtain ⟨z, hd, xs, rel, dd⟩ := dt_rd I.hok e
    obtain ⟨w', hw, rw'⟩ := RelO.some_of (v := v) (o := (atKey xs k).map (·.2)) (by rw [l]; exact rel.val k)
    obtain ⟨p, hp, hp2⟩ := Option.map_eq_some_iff.mp hw
    refine wpAny_getItem_heap (tupleKind_room_in1 hu) (key_of I.hok eb) dd hp ?_
    rw [hp2]
    exact h w' _ (I.tok _) rw'
theorem d_notIn {Q : Value → Shared → Prop} (hu : A.units + 1 < cLine) (I : Inv X pins σ H s) (g : DGet H a y o) (ry : RelV y u) (h : ∀ s', Inv X pins σ H s' → Q (.bool (!o.isSome)) s') :
    wpAny (model X.prog X.w) A (compareOp .NotIn u (.ref a)) Q E s := by
  rcases g with ⟨kvs, k, e, ey, l⟩ | ⟨kvs, k, b, e, ey, eb, l⟩
  · subst ey
    obtain ⟨z, hd, vs, rel, dd⟩ := dk_rd I.hok e
    refine wpAny_notIn_of (kV_is ry) hd dd.mapOf ?_
    rw [← (rel.val k).isSome_eq, ← l]
    exact h _ (I.tok _)
  · subst ey
    cases (show u = Value.ref b from ry)
    obtain ⟨z, hd, xs, rel, dd⟩ := dt_rd I.hok e
    refine wpAny_notIn_heap (tupleKind_room_in1 hu) (key_of I.hok eb) hd dd ?_
    have q := (rel.val k).isSome_eq
    rw [Option.isSome_map] at q
    rw [← q, ← l]
    exact h _ (I.tok _)
/-- a dict's object is replaced -/
theorem d_write {h' : Heap} {t' : Nat} {ob : HO} (I : Inv X pins σ H s) (mu : Mut (H a)) (hs : Heap.SameBut a s.heap h') (he : ∃ q, h'.get? a = some q) (new : ObjOk X.prog X.w (upd H a ob) h' a ob) :
    Inv X pins σ (upd H a ob) { s with heap := h', toks := t' } :=
  I.write (x := a) (e := a) mu (.inl rfl) (fun b q hb z => (hs.2 b hb).trans z) he new
theorem dk_new {P : Program} {w : World} {H' : Hp} {h' : Heap} {kvs : List (Key × V)} {vs : List (Key × Value)} (z : kvs.length ≤ sizeLine) (hd : (a == sysModules) = false) (rel : KV kvs vs) (dd : h'.DictOf (mixKind P w) a vs) :
    ObjOk P w H' h' a (.dK kvs) := ⟨z, hd, vs, rel, dd⟩
/-- d[y] = v -/
theorem d_setItem {H' : Hp} {Q : Unit → Shared → Prop} (hu : A.units + 1 < cLine) (I : Inv X pins σ H s) (g : DPut H a y v H') (ry : RelV y u) (rv : RelV v r) (h : ∀ s', Inv X pins σ H' s' → Q () s') :
    wpAny (model X.prog X.w) A (setItem (.ref a) u r) Q E s := by
  rcases g with ⟨kvs, k, e, ey, l, eH⟩ | ⟨kvs, k, b, e, ey, eb, l, eH⟩
  · subst ey eH
    obtain ⟨z, hd, vs, rel, dd⟩ := dk_of I.hok e
    have hz : vs.length ≤ sizeLine := by rw [← rel.length]; exact z
    have hl : (putK kvs k v).length ≤ sizeLine := by have := length_putK kvs k v; omega
    refine wpAny_setItem_pairs (hsz := hz) (kV_is ry) dd fun h' dd' hs => h _ ?_
    have he : ∃ q, h'.get? a = some q := let ⟨q, _, _, hq, _⟩ := dd'; ⟨q, hq⟩
    exact d_write I (by rw [e]; exact True.intro) hs he (dk_new hl hd (rel.put k rv) dd')
  · subst ey eH
    cases (show u = Value.ref b from ry)
    obtain ⟨z, hd, xs, rel, dd⟩ := dt_of I.hok e
    have hz : xs.length ≤ sizeLine := by rw [← Paired.length rel]; exact z
    have hl : (putK kvs k v).length ≤ sizeLine := by have := length_putK kvs k v; omega
    refine wpAny_setItem_heap (hsz := hz) (tupleKind_room_in1 hu) (key_of I.hok eb) dd fun h' dd' hs => h _ ?_
    obtain ⟨q, es, ep, hq, h2, h3, h4, _, h5⟩ := dd'
    refine d_write I (by rw [e]; exact True.intro) hs ⟨q, hq⟩ ⟨hl, hd, _, (rel.put k eb rv).keeps fun c ys ec => ?_, q, es, ep, hq, h2, h3, h4, h5⟩
    rw [upd_ne (ne_of ec e (fun z => nomatch z))]
    exact ec
end

section
variable {X : Cx} {pins : List (Addr × Obj)} {σ : St} {H : Hp} {s : Shared} {a : Addr} {kvs : List (Key × V)} {k : Key} {u : Value} {A : Around} {E : Value → Shared → Prop}
/-- len(d) -/
theorem d_len {Q : Value → Shared → Prop} (I : Inv X pins σ H s) (e : Rd H a (.dK kvs)) (h : ∀ t s', Inv X pins σ H s' → Q (.int kvs.length t) s') : wpAny (model X.prog X.w) A (call (.builtin "len") [.ref a]) Q E s := by
  obtain ⟨z, hd, vs, rel, dd⟩ := dk_rd I.hok e
  refine call_len_dict hd dd (by rw [← rel.length]; rw [sizeLine_eq] at z; omega) ?_
  rw [← rel.length]
  exact h _ _ (I.tok _)
end


/-! ### readings and rules -/
/-- the element of a subscription, not a slice -/
def NoSl (i : Expr) : Prop := ∀ ov iv, subscripted i false ov iv = operate [ov, iv] (getItem ov iv)
theorem subD_of {prog : Program} {w : World} {A : Around} {E : Value → Shared → Prop} {s : Shared} {env : Env} {value slice : Expr} {pos : Pos} {T id : String} {Q : Value → Shared → Prop}
    (hl : typeLookup (.type T) "__getitem__" = pure (some (.builtin id))) (hs : NoSl slice)
    (h : wpAny (model prog w) A (eval value env) (fun o s₁ => wpAny (model prog w) A (eval slice env) (fun i s₂ => s₂.TypeIs o T ∧ wpAny (model prog w) A (getItem o i) Q E s₂) E s₁) E s) :
    wpAny (model prog w) A (eval (.Subscript value slice pos) env) Q E s := by
  refine Subscript_ (wpAny_mono h (fun o s₁ h₁ => wpAny_mono h₁ (fun i s₂ h₂ => ?_) fun _ _ x => x) fun _ _ x => x)
  obtain ⟨hT, h₂⟩ := h₂
  unfold subscriptTail
  refine wpAny_bind ?_
  rw [getitemInPython_of_ne hT.not_modules]
  refine wpAny_bind (wpAny_specialOf hT hl ?_)
  have fin : wpAny (model prog w) A (subscripted slice false o i) (fun r s₃ => wpAny (model prog w) A (letTemporaryGo value o r >>= fun _ => pure r) Q E s₃) E s₂ := by
    rw [hs o i]
    exact wpAny_operating (wpAny_mono h₂ (fun r s₃ h₃ => wpAny_bind (wpAny_letTemporaryGo (wpAny_pure h₃))) fun _ _ x => x)
  first
    | exact wpAny_pure (wpAny_bind fin)
    | exact wpAny_bind (wpAny_pure (wpAny_bind fin))
    | exact wpAny_bind fin

theorem dict_typeIs {X : Cx} {pins : List (Addr × Obj)} {σ : St} {H : Hp} {s : Shared} {a : Addr} {y : V} {o : Option V} (I : Inv X pins σ H s) (g : DGet H a y o) : s.TypeIs (.ref a) "dict" := by
  rcases g with ⟨kvs, k, e, _, _⟩ | ⟨kvs, k, b, e, _, _, _⟩
  · obtain ⟨_, _, vs, _, dd⟩ := dk_rd I.hok e
    exact dd.typeIs
  · obtain ⟨_, _, xs, _, dd⟩ := dt_rd I.hok e
    exact dd.typeIs
/-- d[y] -/
def tDGet (td ty : TE) : TE := fun σ H Q => td σ H fun x H1 => ty σ H1 fun y H2 => ∃ a v, x = .ref a ∧ DGet H2 a y (some v) ∧ Q v H2
/-- y in d, y not in d -/
def tDIn (ty td : TE) : TE := fun σ H Q => ty σ H fun y H1 => td σ H1 fun x H2 => ∃ a o, x = .ref a ∧ DGet H2 a y o ∧ Q (.bl o.isSome) H2
def tDNotIn (ty td : TE) : TE := fun σ H Q => ty σ H fun y H1 => td σ H1 fun x H2 => ∃ a o, x = .ref a ∧ DGet H2 a y o ∧ Q (.bl (!o.isSome)) H2
/-- d[y] = v -/
def sDPut (td ty tv : TE) : TS := fun D σ H => tv σ H fun v H1 => td σ H1 fun x H2 => ty σ H2 fun y H3 => ∃ a H4, x = .ref a ∧ DPut H3 a y v H4 ∧ D.nx σ H4
/-- d[y] op= v -/
def sDAug (td ty tv : TE) (rd : V → V → Hp → VK → Prop) : TS := fun D σ H => td σ H fun x H1 => ty σ H1 fun y H2 => ∃ a v, x = .ref a ∧ DGet H2 a y (some v) ∧
  tv σ H2 fun y2 H3 => rd v y2 H3 fun z H4 => ∃ H5, DPut H4 a y z H5 ∧ D.nx σ H5
/-- del d[y] -/
def sDDel (td ty : TE) : TS := fun D σ H => td σ H fun x H1 => ty σ H1 fun y H2 => ∃ a kvs k, x = .ref a ∧ H2 a = some (.dK kvs) ∧ y = kV k ∧ (valV kvs k).isSome = true ∧ D.nx σ (upd H2 a (.dK (dropK kvs k)))

section
variable {X : Cx} {o i e value : Expr} {pos pos' tpos : Pos} {td ty tv : TE}
theorem pe_dget (hu : X.A.units + 1 < cLine) (ho : PE X o td) (hi : PE X i ty) (hs : NoSl i) : PE X (.Subscript o i pos) (tDGet td ty) := by
  intro pins s σ H Q I h
  refine subD_of PySem.F.slot_dict_getitem.lookup hs (thn (ho pins s σ H _ I h) fun u s1 hz_ => ?_)
  obtain ⟨x, H1, I1, rx, q1⟩ := hz_
  refine thn (hi pins s1 σ H1 _ I1 q1) fun iv s2 hz_ => ?_
  obtain ⟨y, H2, I2, ry, a, v, ex, g, q2⟩ := hz_
  subst ex
  obtain rfl : u = Value.ref a := rx
  exact ⟨dict_typeIs I2 g, d_getItem hu I2 g ry fun w' s3 I3 rw' => ⟨v, H2, I3, rw', q2⟩⟩
theorem pc_dnotin (hu : X.A.units + 1 < cLine) (hi : PE X i ty) (ho : PE X o td) : PC X .NotIn i o (tDNotIn ty td) := by
  intro pins s σ H Q I h
  refine thn (hi pins s σ H _ I h) fun iv s1 hz_ => ?_
  obtain ⟨y, H1, I1, ry, q1⟩ := hz_
  refine thn (ho pins s1 σ H1 _ I1 q1) fun u s2 hz_ => ?_
  obtain ⟨x, H2, I2, rx, a, ov, ex, g, q2⟩ := hz_
  subst ex
  obtain rfl : u = Value.ref a := rx
  exact d_notIn hu I2 g ry fun s3 I3 => ⟨.bl (!ov.isSome), H2, I3, rfl, q2⟩
theorem ps_dput (hu : X.A.units + 1 < cLine) (ho : PE X o td) (hi : PE X i ty) (hv : PE X value tv) (hs : swapsWith value (some (.Subscript o i pos')) pos.line X.env = pure false) :
    PS X (.Assign [.Subscript o i pos'] value pos) (sDPut td ty tv) := by
  intro pins s σ H D I h
  refine wpAny_Assign_Subscript (thn (hv pins s σ H _ I h) fun r s1 hz_ => ?_) hs
  obtain ⟨v, H1, I1, rv, q1⟩ := hz_
  refine thn (ho pins s1 σ H1 _ I1 q1) fun u s2 hz_ => ?_
  obtain ⟨x, H2, I2, rx, q2⟩ := hz_
  refine thn (hi pins s2 σ H2 _ I2 q2) fun iv s3 hz_ => ?_
  obtain ⟨y, H3, I3, ry, a, H4, ex, g, q3⟩ := hz_
  subst ex
  obtain rfl : u = Value.ref a := rx
  exact d_setItem hu I3 g ry rv fun s4 I4 => ⟨σ, H4, I4, q3⟩
end


/-! ### displays -/
theorem dk_empty {P : Program} {w : World} {H : Hp} (h : Heap) (hb : sysModules < h.objs.size) : ObjOk P w H (h.push { cls := .type "dict", data := .dict #[] }) h.objs.size (.dK []) :=
  ⟨Nat.zero_le _, beq_eq_false_iff_ne.mpr (Ne.symm (Nat.ne_of_lt hb)), [], .nil, Heap.DictOf.new h⟩
/-- {}, to be a dict of the kind that is wanted -/
def tDNewK : TE := fun _ H Q => ∀ p, H p = none → Q (.ref p) (upd H p (.dK []))
def tDNewT : TE := fun _ H Q => ∀ p, H p = none → Q (.ref p) (upd H p (.dT []))
section
variable {X : Cx} {pos : Pos}
end

/-- the pairs of a display, from the left -/
def tPairs : List (TE × TE) → St → Hp → (List (V × V) → Hp → Prop) → Prop
  | [], _, H, Q => Q [] H
  | (tk, tv) :: r, σ, H, Q => tk σ H fun x H1 => tv σ H1 fun y H2 => tPairs r σ H2 fun ps H3 => Q ((x, y) :: ps) H3
abbrev VV : List (V × V) → List (Value × Value) → Prop := Paired fun p q => RelV p.1 q.1 ∧ RelV p.2 q.2
def PPs (X : Cx) (pos : Pos) (keys : List (Option Expr)) (values : List Expr) (trs : List (TE × TE)) : Prop :=
  ∀ (pins : List (Addr × Obj)) (s : Shared) (σ : St) (H : Hp) (Q : List (V × V) → Hp → Prop), Inv X pins σ H s → tPairs trs σ H Q →
    wpAny (model X.prog X.w) X.A (evalPairs (pairTrees keys values X.env pos)) (fun vs s' => ∃ ps H', Inv X pins σ H' s' ∧ VV ps vs ∧ Q ps H') X.xe s
theorem pps_nil {X : Cx} {pos : Pos} : PPs X pos [] [] [] := fun pins s σ H Q I h => pairTrees_nil_walk ⟨[], H, I, .nil, h⟩
theorem pps_cons {X : Cx} {pos : Pos} {k v : Expr} {ks : List (Option Expr)} {vs : List Expr} {tk tv : TE} {trs : List (TE × TE)} (hk : PE X k tk) (hv : PE X v tv) (hr : PPs X pos ks vs trs) :
    PPs X pos (some k :: ks) (v :: vs) ((tk, tv) :: trs) := fun pins s σ H Q I h =>
  pairTrees_cons_walk (thn (hk pins s σ H _ I h) fun u s1 ⟨x, H1, I1, rx, q1⟩ => thn (hv pins s1 σ H1 _ I1 q1) fun w2 s2 ⟨y, H2, I2, ry, q2⟩ =>
    thn (hr pins s2 σ H2 _ I2 q2) fun ws s3 ⟨ps, H3, I3, rel, q3⟩ => ⟨(x, y) :: ps, H3, I3, .cons ⟨rx, ry⟩ rel, q3⟩)

def mergeK (kvs more : List (Key × V)) : List (Key × V) := more.foldl (fun acc kv => putK acc kv.1 kv.2) kvs
theorem KV.merge : ∀ {more : List (Key × V)} {rs : List (Key × Value)} {kvs : List (Key × V)} {vs : List (Key × Value)}, KV more rs → KV kvs vs → KV (mergeK kvs more) (merged vs rs) := by
  intro more rs kvs vs r
  unfold KV at r
  induction r generalizing kvs vs with
  | nil => intro q; exact q
  | @cons p q ps qs h t ih =>
    intro r0
    have e : KV (putK kvs p.1 p.2) (stored vs q.1 q.2) := by
      have := r0.put p.1 h.2
      rw [← h.1]; exact this
    exact ih e
theorem length_mergeK : ∀ (more kvs : List (Key × V)), (mergeK kvs more).length ≤ kvs.length + more.length
  | [], kvs => by show kvs.length ≤ kvs.length + 0; omega
  | p :: r, kvs => by
    have h1 := length_mergeK r (putK kvs p.1 p.2)
    have h2 := length_putK kvs p.1 p.2
    show (mergeK (putK kvs p.1 p.2) r).length ≤ _
    rw [List.length_cons]; omega
theorem carries_of {P : Program} {w : World} : ∀ {kvs : List (Key × V)} {ws : List (Value × Value)}, VV (kvs.map fun kv => (kV kv.1, kv.2)) ws → ∃ rs, Carries (mixKind P w) ws rs ∧ KV kvs rs
  | [], _, r => by rw [List.map_nil] at r; cases r; exact ⟨[], True.intro, .nil⟩
  | p :: kvs, _, r => by
    rw [List.map_cons] at r
    cases r with
    | @cons a b as bs h t =>
      obtain ⟨rs, c, q⟩ := carries_of (P := P) (w := w) t
      obtain ⟨b1, b2⟩ := b
      exact ⟨(p.1, b2) :: rs, ⟨kV_is h.1, rfl, c⟩, .cons ⟨rfl, h.2⟩ q⟩
/-- {k: v, ..} with keys ints and texts; the new dict stands empty while the pairs are made -/
def tDisp (trs : List (TE × TE)) : TE := fun σ H Q => ∀ p, H p = none → tPairs trs σ (upd H p (.dK [])) fun ps H2 => H2 p = some (.dK []) ∧ ∃ kvs : List (Key × V), ps = kvs.map (fun kv => (kV kv.1, kv.2)) ∧ kvs.length ≤ 15 ∧ Q (.ref p) (upd H2 p (.dK (mergeK [] kvs)))
theorem pe_disp {X : Cx} {pos : Pos} {keys : List (Option Expr)} {values : List Expr} {trs : List (TE × TE)} (h : PPs X pos keys values trs) (hall : keys.all (·.isSome) = true) (hl : keys.length = values.length) (h0 : keys ≠ [])
    (h15 : keys.length ≤ 15) : PE X (.Dict keys values pos) (tDisp trs) := by
  intro pins s σ H Q I q
  have hn := I.hok.fresh (Nat.le_refl s.heap.objs.size)
  have I1 := I.laid (a := s.heap.objs.size) (o := .dK []) (h' := s.heap.push { cls := .type "dict", data := .dict #[] }) (t' := s.toks) (fun _ _ q => Heap.get?_push_of_some _ q) (Nat.le_refl _) (dk_empty s.heap I.big)
  refine wpAny_Dict_walk (knd := mixKind X.prog X.w) hall hl h0 h15 (thn (h pins _ σ _ _ I1 (q _ hn)) fun ws s2 hz_ => ?_)
  obtain ⟨ps, H2, I2, rel, e, kvs, ep, lk, q2⟩ := hz_
  subst ep
  obtain ⟨rs, c, rk⟩ := carries_of (P := X.prog) (w := X.w) rel
  obtain ⟨z, hd, vs0, r0, dd⟩ := dk_of I2.hok e
  cases r0
  refine ⟨rs, c, dd, fun h' dd' hs => ⟨.ref s.heap.objs.size, _, ?_, rfl, q2⟩⟩
  have hz : (mergeK [] kvs).length ≤ sizeLine := by
    have h1 := length_mergeK kvs []
    rw [List.length_nil] at h1
    rw [sizeLine_eq]; omega
  have he : ∃ q, h'.get? s.heap.objs.size = some q := let ⟨q, _, _, hq, _⟩ := dd'; ⟨q, hq⟩
  exact d_write I2 (by rw [e]; exact True.intro) hs he (dk_new hz hd (rk.merge .nil) dd')


/-! ### methods -/
/-- a method call o.m(e) of a built-in, with one argument: what must be seen of the text -/
structure M1 (X : Cx) (o : Expr) (m : Str) (apos : Pos) (e : Expr) (cpos : Pos) : Prop where
  base : attributeBase o m X.env (eval o X.env) = eval o X.env
  few : ((backTo cpos (starEach [e] X.env)).all (fun x => !x.1) && (backToKw cpos (keywordEach [] X.env)).all (fun x => x.1.isSome)
    && decide (([e] : List Expr).length + ([] : List Keyword).length + (if ([] : List Keyword).isEmpty then 0 else 1) < 30)) = true
  line : (apos.endLine == cpos.line) = true
  trees : backTo cpos (starEach [e] X.env) = [(false, eval e X.env)]
structure M2 (X : Cx) (o : Expr) (m : Str) (apos : Pos) (e f : Expr) (cpos : Pos) : Prop where
  base : attributeBase o m X.env (eval o X.env) = eval o X.env
  few : ((backTo cpos (starEach [e, f] X.env)).all (fun x => !x.1) && (backToKw cpos (keywordEach [] X.env)).all (fun x => x.1.isSome)
    && decide (([e, f] : List Expr).length + ([] : List Keyword).length + (if ([] : List Keyword).isEmpty then 0 else 1) < 30)) = true
  line : (apos.endLine == cpos.line) = true
  trees : backTo cpos (starEach [e, f] X.env) = [(false, eval e X.env), (false, eval f X.env)]

/-- a is a dict, whatever its keys -/
def IsD (H : Hp) (a : Addr) : Prop := (∃ kvs, Rd H a (.dK kvs)) ∨ ∃ kvs, Rd H a (.dT kvs)
section
variable {X : Cx} {pins : List (Addr × Obj)} {σ : St} {H : Hp} {s : Shared} {a : Addr} {y d : V} {u r : Value} {o : Option V} {A : Around} {E : Value → Shared → Prop}
end

def tDGet1 (td ty : TE) : TE := fun σ H Q => td σ H fun x H1 => ∃ a, x = .ref a ∧ IsD H1 a ∧ ty σ H1 fun y H2 => ∃ o, DGet H2 a y o ∧ Q (o.getD .non) H2
def tDGet2 (td ty tx : TE) : TE := fun σ H Q => td σ H fun x H1 => ∃ a, x = .ref a ∧ IsD H1 a ∧ ty σ H1 fun y H2 => tx σ H2 fun z H3 => ∃ o, DGet H3 a y o ∧ Q (o.getD z) H3
/-- d.pop(k): there; d.pop(k, x): there or not -/
def tDPop1 (td ty : TE) : TE := fun σ H Q => td σ H fun x H1 => ∃ a, x = .ref a ∧ IsD H1 a ∧ ty σ H1 fun y H2 => ∃ kvs k v, H2 a = some (.dK kvs) ∧ y = kV k ∧ valV kvs k = some v ∧ Q v (upd H2 a (.dK (dropK kvs k)))
def tDPop2 (td ty tx : TE) : TE := fun σ H Q => td σ H fun x H1 => ∃ a, x = .ref a ∧ IsD H1 a ∧ ty σ H1 fun y H2 => tx σ H2 fun z H3 => ∃ kvs k, H3 a = some (.dK kvs) ∧ y = kV k ∧
  (∀ v, valV kvs k = some v → Q v (upd H3 a (.dK (dropK kvs k)))) ∧ (valV kvs k = none → Q z H3)
section
variable {X : Cx} {o e f : Expr} {apos cpos : Pos} {td ty tx : TE}
end

/-! ### dict(d): a copy -/
section
variable {X : Cx} {pins : List (Addr × Obj)} {σ : St} {H : Hp} {s : Shared} {a : Addr} {kvs : List (Key × V)} {A : Around} {E : Value → Shared → Prop}
end


section
variable {X : Cx} {pins : List (Addr × Obj)} {σ : St} {H : Hp} {s : Shared} {a : Addr} {y : V} {u : Value} {A : Around} {E : Value → Shared → Prop}
end
end L2

namespace Att
open PySem PySem.W PySem.Calls PyProof.Rows

/-! ### the script -/
theorem ints_of_wellAll {P : Params} {h : Heap} : ∀ (ns : List Int) (vs : List Value), WellAll P h vs (ns.map WData.int) → IntsAre vs ns := by
  intro ns
  induction ns with
  | nil =>
    intro vs w
    rw [List.map_nil] at w
    cases w
    exact .nil
  | cons n ns ih =>
    intro vs w
    rw [List.map_cons] at w
    cases w with
    | cons a b =>
      cases a
      exact .cons _ _ (ih _ b)

theorem script_of {l : OpenLaw} {n : Nat} (hn : l.most = some n) {P : Params} {h : Heap} {args : List WData} {vals : List Value}
    (hpre : l.row.toRowW.claim.pre args = true) (hwl : WellAll P h vals args) :
    ∃ a vs ns, vals = [Value.ref a] ∧ args = [WData.list (ns.map WData.int)] ∧ h.get? a = some { cls := .type "list", data := .seq vs.toArray } ∧ IntsAre vs ns ∧ ns.length ≤ n := by
  have hsh : WShape.hasAll [] args [.list .int] = true := (pre_splitW hpre).1
  have hc : l.pre.holds [] { args := args } = true := (pre_splitW hpre).2
  obtain ⟨d, r, rfl, h1, h2⟩ := hasAllW_cons hsh
  obtain rfl := hasAllW_nil h2
  obtain ⟨xs, rfl, h3⟩ := hasW_list h1
  obtain ⟨ns, rfl⟩ := items_int h3
  have hlen : ns.length ≤ n := by
    unfold OpenLaw.pre at hc
    have h4 : (WTm.not (.lt (.lit (.int (n : Int))) (.len (.arg 0)))).holds [] { args := [.list (ns.map .int)] } = true := by
      have h4 := (holds_andW hc).1
      rw [hn] at h4
      exact h4
    have h5 := condW_of h4 (w_not (w_lt w_lit (w_len_list (w_arg rfl))))
    rw [List.length_map] at h5
    refine Nat.le_of_not_lt fun q => ?_
    have q' : (n : Int) < ((ns.length : Nat) : Int) := by omega
    first
      | (rw [decide_eq_true q'] at h5; exact absurd h5 (by decide))
      | (simp at h5; omega)
  cases hwl with
  | cons w1 w2 =>
    cases w2
    cases w1 with
    | list ho hall => exact ⟨_, _, ns, rfl, rfl, ho, ints_of_wellAll ns _ hall, hlen⟩

theorem post_true (l : OpenLaw) (args : List WData) : l.row.toRowW.claim.post args (.bool true) args = true :=
  postW_of (r := l.row.toRowW) (X := (true == true))
    (show WShape.has [] (.bool true) .bool = true by first | rfl | decide | simp [WShape.has, WShape.arms, WShape.armsAll])
    (show (WTm.eq .res (.lit (.bool true))).value [] { args := args, res := some (.bool true), after := args } = some (.bool (true == true)) from w_eq_bool (w_res rfl) w_lit) rfl

/-! ### the attachment: holds_open's last premise (the goal 'hc' behind k_head) from a wpAny of the law's body -/
/-- the same from a codeAny of the CALL (for a layer whose function contracts speak of calls) -/
theorem attach_call {l : OpenLaw} {n : Nat} {q : Program} {loose : List Str} {XP : (Str → Option Value) → Heap → Prop} {YP : World → Heap → Prop} {d : DefRec}
    (hn : l.most = some n) (hdf : d.params.defaults = [])
    (call : ∀ (w : World) (s₀ s₁ : Shared) (mg mb : Str → Option Value) (fa : Addr) (o : Obj) (pm cd doc : Value) (a : Addr) (vs : List Value) (ns : List Int),
      Ground q loose [] XP w s₀ mg mb s₁.heap → YP w s₁.heap →
      s₁.heap.get? fa = some o → o.data = .func (docDef d.name d.params d.body d.scope pm cd doc) → s₁.heap.CodeRec cd d.name → mg d.name = some (.ref fa) →
      s₁.heap.get? a = some { cls := .type "list", data := .seq vs.toArray } → IntsAre vs ns → ns.length ≤ n → s₁.gens = #[] →
      codeAny (model l.prog w) callerA (.call (.ref fa) ⟨[.ref a], []⟩) (fun r s' => r = .ok (.ret (.bool true)) ∧ OldK s₁.heap s'.heap ∧ s'.os = s₁.os ∧ AllBare s'.gens) s₁) :
    WalkO q loose XP YP l.row.toRowW d [] (fun f vs => PySem.call f vs) := by
  intro w s₀ s₁ mg mb G Y fa o pm cd doc dV kV ho hd hcd hD hmg hg args vals as hpre hlay hrd hwl hlo
  obtain rfl : dV = .none := Dflts.none hD hdf
  obtain rfl : kV = .none := Dflts.noKw hD
  obtain ⟨a, vs, ns, rfl, rfl, hobj, hints, hlen⟩ := script_of hn hpre hwl
  refine enter_call (codeAny_mono (call w s₀ s₁ mg mb fa o pm cd doc a vs ns G Y ho (fd_plain hd) hcd hmg hobj hints hlen hg) fun r s' hq => ?_)
  obtain ⟨rfl, h2, h3, h4⟩ := hq
  exact ⟨.inl ⟨.bool true, .bool true, [], rfl, fun _ => rfl, .bool true, post_true l _, fun _ => ⟨List.Pairwise.nil, fun _ hm => (nomatch hm)⟩⟩, h2, h3, h4⟩

/-! ### rules over ANY heap (no ledger) from facts about the written part K: the library's own take a ledger (News) for what they write -/
section
variable {prog : Program} {w : World} {A : Around} {E : Value → Shared → Prop} {s : Shared} {K : Frag}

/-! the whole heap as the ledger: makes every rule that writes through a ledger a rule over any heap -/
def noObjs (h : Heap) : Heap := { h with objs := #[] }
def ledger (h : Heap) (L d : Addr) : List (Addr × Obj) := (List.range h.objs.size).filterMap fun a => if a = L ∨ a = d then none else (h.get? a).map fun o => (a, o)
end
end Att

namespace L2
open PySem PySem.Spec PyProof.Rows

theorem vals_ints : ∀ {vs : List Value} {ns : List Int}, IntsAre vs ns → Vals (ns.map V.int) vs
  | _, _, .nil => .nil
  | _, _, .cons n t h => .cons ⟨t, rfl⟩ (vals_ints h)

/-- nothing is tracked but the script, known to the object (or it is an object of the module) -/
def Only (H : Hp) : Prop := ∀ b, H b = none ∨ ∃ o xs, H b = some (.frz o (.lst xs))

end L2

namespace L2
open PySem PySem.Spec PyProof.Rows

abbrev KOf {K : PySem.W.Frag} {h : Heap} (_ : K.In h) : PySem.W.Frag := K

end L2



/-! SHORT WORDS over the layer: a def of the text, its body, what a loop and a test want. -/
namespace L2
open PySem PySem.Spec PyProof.Rows

/-! ### the text by places -/
/-- the j-th statement of a class's body -/
def inClass (s : Stmt) (j : Nat) : Stmt := match s with
  | .ClassDef _ _ _ body _ _ _ _ _ _ _ => body.getD j (.Pass ⟨0, 0, 0, 0⟩)
  | _ => .Pass ⟨0, 0, 0, 0⟩
def defArgs (s : Stmt) : Arguments := match s with
  | .FunctionDef _ a _ _ _ _ _ _ _ _ => a
  | _ => { posonlyargs := [], args := [], vararg := none, kwonlyargs := [], kw_defaults := [], kwarg := none, defaults := [] }
def defBody (s : Stmt) : List Stmt := match s with
  | .FunctionDef _ _ b _ _ _ _ _ _ _ => b
  | _ => []
def defScope (s : Stmt) : Scope := match s with
  | .FunctionDef _ _ _ _ _ _ sc _ _ _ => sc
  | _ => { kind := .function, names := [], isGenerator := false, isCoroutine := false }

/-! ### no exception leaves a def -/
abbrev CX0 : CXT := fun _ _ _ _ _ _ => False
abbrev E0 : XK := fun _ _ _ => False
theorem pass0 {X : Cx} : Passes CX0 X E0 := fun _ _ _ _ _ _ _ h => h.elim

/-! ### a def (or method) of the text as it stands behind the top -/
structure Fun (K : PySem.W.Frag) (x qual : Str) (st : Stmt) (f : Addr) (fd : FuncData) : Prop where
  ex : ∃ (oc : Value) (od : Option Addr) (kV doc pm : Value) (an : Option Addr) (cdv ct : Value) (osl : Array (Option Value)),
    fd = PySem.W.fnOf x qual (defArgs st) (defBody st) (defScope st) .none kV doc pm an cdv ct ∧ K.lookup f = some ⟨oc, od, .func fd, osl⟩ ∧ PySem.W.codeIn K cdv qual = true
  kp : PySem.W.keepIn K (.ref f) = true
section
variable {P : Program} {w : World} {K : PySem.W.Frag} {mg : Str → Option Value} {base : Heap}
/-- THE RULE for a def: its body as a term of rules, and the reading of that term -/
theorem Fun.ok {x qual : Str} {st : Stmt} {f : Addr} {fd : FuncData} {N ps : List Str} {k : Nat} {sp : Sp} (F : Fun K x qual st f fd) (S : FnScope N ps (defScope st)) (len : ∀ vs H Q E, sp vs H Q E → vs.length = ps.length)
    (hbody : ∀ (cdv : Value) (A : Around) (outer : List Env) (s : Shared) (H : Hp) (vs : List V) (Q : VK) (E : XK), Room k (A.deeper (envOfC qual (defScope st) s.heap.objs.size f cdv)) → sp vs H Q E →
      ∃ t, PSs (cxOf CX0 P w K mg base N qual (defScope st) f cdv A outer s H E).nox (defBody st) t ∧ t { nx := fun _ H' => Q .non H', rt := Q } (start N vs) H) : FnOk P w K mg base CX0 (k + 1) f fd ps sp := by
  obtain ⟨oc, od, kV, doc, pm, an, cdv, ct, osl, rfl, lk, hcd⟩ := F.ex
  refine fn_of lk hcd S len fun A outer s H vs Q E hr hsp => ?_
  obtain ⟨t, h, q⟩ := hbody cdv A outer s H vs Q E hr hsp
  exact ⟨t, h.nox, q⟩
/-- how its arguments bind (no defaults): h is «fun _ _ _ _ _ _ us hl => match us, hl with | [_, _], _ => rfl», one _ a parameter -/
theorem Fun.binds {x qual : Str} {st : Stmt} {f : Addr} {fd : FuncData} {ps : List Str} (F : Fun K x qual st f fd)
    (h : ∀ (kV doc pm : Value) (an : Option Addr) (cdv ct : Value) (us : List Value), us.length = ps.length → bindArgs (PySem.W.fnOf x qual (defArgs st) (defBody st) (defScope st) .none kV doc pm an cdv ct) ⟨us, []⟩ = pure (ps.zip us)) : Binds K fd ps [] := by
  obtain ⟨oc, od, kV, doc, pm, an, cdv, ct, osl, rfl, lk, hcd⟩ := F.ex
  exact .all (h kV doc pm an cdv ct)
theorem fun_mk {x qual : Str} {st : Stmt} {f : Addr} {oc : Value} {od an : Option Addr} {osl : Array (Option Value)} {kV doc pm cdv ct : Value} (l : K.lookup f = some ⟨oc, od, .func (PySem.W.fnOf x qual (defArgs st) (defBody st) (defScope st) .none kV doc pm an cdv ct), osl⟩)
    (c : PySem.W.codeIn K cdv qual = true) (k : PySem.W.keepIn K (.ref f) = true) : Fun K x qual st f (PySem.W.fnOf x qual (defArgs st) (defBody st) (defScope st) .none kV doc pm an cdv ct) := ⟨⟨oc, od, kV, doc, pm, an, cdv, ct, osl, rfl, l, c⟩, k⟩
end
theorem hu_of {A : Around} {k : Nat} (hr : Room k A) : A.units + 1 < cLine := Nat.lt_of_le_of_lt (Nat.add_le_add_left (by decide : 1 ≤ 64) _) hr.units
/-! ### expressions in short: the name that stands in the i-th slot -/
section
variable {X : Cx}
theorem pv (i : Nat) {x : Str} {pos : Pos} (hN : X.N[i]? = some x := by rfl) (hv : Vis X.env.scope x := by first | exact Or.inl rfl | exact Or.inr (Or.inl rfl) | exact Or.inr (Or.inr rfl)) (hd : (x == ("__debug__" : Str)) = false := by decide)
    (hcd : (x == ("__classdict__" : Str)) = false := by decide) : PE X (.Name x pos) (tVar i) := pe_var hN hv hd hcd
/-- len of a dict -/
theorem call_lenD : CallR X (.builtin "len") (fun xs H Q => ∃ a kvs, xs = [V.ref a] ∧ H a = some (.dK kvs) ∧ Q (.int kvs.length) H) := by
  intro pins s σ H xs us Q I r h
  obtain ⟨a, kvs, rfl, ha, q⟩ := h
  obtain ⟨u, rfl, ru⟩ := vals1 r
  cases ru
  exact d_len I (.inl ha) fun t s' I' => ⟨.int kvs.length, H, I', ⟨t, rfl⟩, q⟩
end

/-! ### tests -/
theorem iteF {A B : Prop} (h : B) : if false = true then A else B := by
  rw [if_neg Bool.false_ne_true]
  exact h
theorem iteT {A B : Prop} (h : A) : if true = true then A else B := by
  rw [if_pos rfl]
  exact h
theorem ite2 {c A B : Prop} [Decidable c] (h1 : c → A) (h2 : ¬ c → B) : if c then A else B := by
  by_cases h : c
  · rw [if_pos h]
    exact h1 h
  · rw [if_neg h]
    exact h2 h
/-! ### heaps -/
/-- all that was tracked is as it was -/
def Same (H H' : Hp) : Prop := ∀ b o, H b = some o → H' b = some o
theorem Same.refl (H : Hp) : Same H H := fun _ _ h => h
theorem Same.trans {H H1 H2 : Hp} (a : Same H H1) (b : Same H1 H2) : Same H H2 := fun c o h => b c o (a c o h)
theorem Same.free {H H' : Hp} (e : Same H H') {l : Addr} (h : H' l = Option.none) : H l = Option.none := by
  cases q : H l with
  | none => rfl
  | some o =>
    rw [e l o q] at h
    cases h
theorem Same.seq {K : PySem.W.Frag} {H H' : Hp} {a : Addr} {xs : List V} (e : Same H H') (h : SqL K H a xs) : SqL K H' a xs := by
  rcases h with (h | ⟨o, h⟩) | h
  · exact .inl (.inl (e _ _ h))
  · exact .inl (.inr ⟨o, e _ _ h⟩)
  · exact .inr h

/-! ### a dict's pairs: keys that differ -/
section
variable {κ : Type} [DecidableEq κ]
theorem nd_snoc : ∀ {l : List κ} {k : κ}, l.Nodup → ¬ k ∈ l → (l ++ [k]).Nodup
  | [], k, _, _ => by simp
  | a :: r, k, h, hk => by
    obtain ⟨h1, h2⟩ := List.nodup_cons.mp h
    show (a :: (r ++ [k])).Nodup
    refine List.nodup_cons.mpr ⟨fun m => ?_, nd_snoc h2 fun m => hk (List.mem_cons.mpr (Or.inr m))⟩
    rcases List.mem_append.mp m with q | q
    · exact h1 q
    · exact hk (List.mem_cons.mpr (Or.inl (List.mem_singleton.mp q).symm))
end
end L2
namespace WR

/-- a road: two villages, a length -/
abbrev Road := Int × Int × Int
/-- the road at place i joins p and x, with the length l -/
def Joins (rs : List Road) (i : Nat) (p x l : Int) : Prop := rs[i]? = some (p, x, l) ∨ rs[i]? = some (x, p, l)
theorem Joins.symm {rs : List Road} {i : Nat} {p x l : Int} (h : Joins rs i p x l) : Joins rs i x p l := Or.symm h
theorem Joins.lt {rs : List Road} {i : Nat} {p x l : Int} (h : Joins rs i p x l) : i < rs.length := by
  rcases h with h | h <;> exact (List.getElem?_eq_some_iff.mp h).1
theorem Joins.len {rs : List Road} {i : Nat} {p x l q y m : Int} (h : Joins rs i p x l) (g : Joins rs i q y m) : l = m := by
  rcases h with h | h <;> rcases g with g | g <;> (rw [h] at g; simp only [Option.some.injEq, Prod.mk.injEq] at g; omega)
theorem Joins.ends {rs : List Road} {i : Nat} {p x l q y m : Int} (h : Joins rs i p x l) (g : Joins rs i q y m) : (q = p ∧ y = x) ∨ (q = x ∧ y = p) := by
  rcases h with h | h <;> rcases g with g | g <;> (rw [h] at g; simp only [Option.some.injEq, Prod.mk.injEq] at g; omega)

/-- villages 0 .. n - 1; roads between two unlike ones, of positive length -/
structure Roads (n : Nat) (rs : List Road) : Prop where
  lo : ∀ r ∈ rs, 0 ≤ r.1 ∧ 0 ≤ r.2.1
  hi : ∀ r ∈ rs, r.1 < n ∧ r.2.1 < n
  ne : ∀ r ∈ rs, r.1 ≠ r.2.1
  ps : ∀ r ∈ rs, 1 ≤ r.2.2 ∧ r.2.2 ≤ 1000000
def InV (n : Nat) (x : Int) : Prop := 0 ≤ x ∧ x < n
theorem Roads.joins {n : Nat} {rs : List Road} {i : Nat} {p x l : Int} (R : Roads n rs) (h : Joins rs i p x l) : InV n p ∧ InV n x ∧ p ≠ x ∧ 1 ≤ l ∧ l ≤ 1000000 := by
  rcases h with h | h
  · have m := List.mem_of_getElem? h
    have := R.lo _ m; have := R.hi _ m; have := R.ne _ m; have := R.ps _ m
    exact ⟨⟨by simp_all, by simp_all⟩, ⟨by simp_all, by simp_all⟩, by simp_all, by simp_all, by simp_all⟩
  · have m := List.mem_of_getElem? h
    have := R.lo _ m; have := R.hi _ m; have := R.ne _ m; have := R.ps _ m
    exact ⟨⟨by simp_all, by simp_all⟩, ⟨by simp_all, by simp_all⟩, fun e => R.ne _ m e.symm, by simp_all, by simp_all⟩

/-! ### counting -/
theorem nodup_le {α : Type} [DecidableEq α] : ∀ {l m : List α}, l.Nodup → (∀ x ∈ l, x ∈ m) → l.length ≤ m.length
  | [], _, _, _ => Nat.zero_le _
  | a :: r, m, h, s => by
    obtain ⟨h1, h2⟩ := List.nodup_cons.mp h
    have ha : a ∈ m := s a List.mem_cons_self
    have := nodup_le (l := r) (m := m.erase a) h2 fun x hx => by
      have hne : x ≠ a := fun e => h1 (e ▸ hx)
      exact (List.mem_erase_of_ne hne).mpr (s x (List.mem_cons_of_mem _ hx))
    rw [List.length_erase_of_mem ha] at this
    have : 0 < m.length := List.length_pos_of_mem ha
    rw [List.length_cons]
    omega
/-- as many, and within: all -/
theorem nodup_all {α : Type} [DecidableEq α] {l m : List α} (h : l.Nodup) (s : ∀ x ∈ l, x ∈ m) (e : m.length ≤ l.length) : ∀ x ∈ m, x ∈ l := by
  intro x hx
  refine Decidable.byContradiction fun hn => ?_
  have := nodup_le (l := x :: l) (m := m) (List.nodup_cons.mpr ⟨hn, h⟩) (fun y hy => by
    rcases List.mem_cons.mp hy with rfl | hy
    · exact hx
    · exact s y hy)
  rw [List.length_cons] at this
  omega
theorem map_nodup_on {α β : Type} {f : α → β} : ∀ {l : List α}, l.Nodup → (∀ x ∈ l, ∀ y ∈ l, f x = f y → x = y) → (l.map f).Nodup
  | [], _, _ => List.nodup_nil
  | a :: r, h, g => by
    obtain ⟨h1, h2⟩ := List.nodup_cons.mp h
    rw [List.map_cons]
    refine List.nodup_cons.mpr ⟨fun m => ?_, map_nodup_on h2 fun x hx y hy => g x (List.mem_cons_of_mem _ hx) y (List.mem_cons_of_mem _ hy)⟩
    obtain ⟨y, hy, e⟩ := List.mem_map.mp m
    have := g y (List.mem_cons_of_mem _ hy) a List.mem_cons_self e
    exact h1 (this ▸ hy)
/-- the villages as a list -/
def vil (n : Nat) : List Int := (List.range n).map fun (k : Nat) => (k : Int)
theorem mem_vil {n : Nat} {x : Int} : x ∈ vil n ↔ InV n x := by
  unfold vil InV
  rw [List.mem_map]
  constructor
  · rintro ⟨k, hk, rfl⟩
    have := List.mem_range.mp hk
    omega
  · rintro ⟨h0, h1⟩
    exact ⟨x.toNat, List.mem_range.mpr (by omega), by omega⟩
theorem vil_nodup (n : Nat) : (vil n).Nodup := by
  unfold vil
  exact map_nodup_on List.nodup_range fun a _ b _ e => by omega
theorem vil_length (n : Nat) : (vil n).length = n := by simp [vil]

/-! ### a table of ways from s -/
/-- each village but s has a village towards s (of a lesser rank), a road to it, and how far it is -/
structure Span (n : Nat) (rs : List Road) (s : Int) (par : Int → Int) (idx : Int → Nat) (D : Int → Int) (rk : Int → Nat) : Prop where
  start : D s = 0
  ins : InV n s
  pin : ∀ x, InV n x → x ≠ s → InV n (par x)
  rank : ∀ x, InV n x → x ≠ s → rk (par x) < rk x
  road : ∀ x, InV n x → x ≠ s → ∃ l, Joins rs (idx x) (par x) x l ∧ D x = D (par x) + l

section
variable {n : Nat} {rs : List Road} {s : Int} {par par' : Int → Int} {idx idx' : Int → Nat} {D D' : Int → Int} {rk rk' : Int → Nat}
theorem Span.inj (S : Span n rs s par idx D rk) {x y : Int} (hx : InV n x) (hy : InV n y) (nx : x ≠ s) (ny : y ≠ s) (e : idx x = idx y) : x = y := by
  obtain ⟨l, j, _⟩ := S.road x hx nx
  obtain ⟨m, k, _⟩ := S.road y hy ny
  rw [e] at j
  rcases j.ends k with ⟨a, b⟩ | ⟨a, b⟩
  · exact b.symm
  · have r1 := S.rank x hx nx
    have r2 := S.rank y hy ny
    rw [a] at r2
    rw [← b] at r1
    omega
/-- all roads are used, if there are no more than one less than villages -/
theorem Span.surj (S : Span n rs s par idx D rk) (hn : rs.length + 1 = n) {i : Nat} (hi : i < rs.length) : ∃ x, InV n x ∧ x ≠ s ∧ idx x = i := by
  have hs : s ∈ vil n := mem_vil.mpr S.ins
  have hl : ((vil n).erase s).length = rs.length := by
    rw [List.length_erase_of_mem hs, vil_length]
    omega
  have mem : ∀ x, x ∈ (vil n).erase s → InV n x ∧ x ≠ s := fun x hx => by
    have := (List.Nodup.mem_erase_iff (vil_nodup n)).mp hx
    exact ⟨mem_vil.mp this.2, this.1⟩
  have nd : (((vil n).erase s).map idx).Nodup := map_nodup_on ((vil_nodup n).erase s) fun x hx y hy e => S.inj (mem x hx).1 (mem y hy).1 (mem x hx).2 (mem y hy).2 e
  have sub : ∀ j ∈ ((vil n).erase s).map idx, j ∈ List.range rs.length := fun j hj => by
    obtain ⟨x, hx, rfl⟩ := List.mem_map.mp hj
    obtain ⟨l, jn, _⟩ := S.road x (mem x hx).1 (mem x hx).2
    exact List.mem_range.mpr jn.lt
  have := nodup_all nd sub (by rw [List.length_map, hl, List.length_range]; exact Nat.le_refl _) i (List.mem_range.mpr hi)
  obtain ⟨x, hx, e⟩ := List.mem_map.mp this
  exact ⟨x, (mem x hx).1, (mem x hx).2, e⟩
/-- one table alone -/
theorem Span.uniq_idx (S : Span n rs s par idx D rk) (S' : Span n rs s par' idx' D' rk') (hn : rs.length + 1 = n) : ∀ x, InV n x → x ≠ s → idx x = idx' x := by
  have all : ∀ k x, rk' x < k → InV n x → x ≠ s → idx x = idx' x := by
    intro k
    induction k with
    | zero => intro x h; omega
    | succ k ih =>
      intro x hk hx nx
      obtain ⟨l, j, _⟩ := S'.road x hx nx
      obtain ⟨y, hy, ny, ey⟩ := S.surj hn j.lt
      obtain ⟨m, jy, _⟩ := S.road y hy ny
      rw [ey] at jy
      rcases j.ends jy with ⟨a, b⟩ | ⟨a, b⟩
      · rw [b] at ey; exact ey
      · -- y is the village towards s of x in the other table
        have r1 := S'.rank x hx nx
        have e1 : idx y = idx' y := ih y (by rw [b]; omega) hy ny
        have e2 : y = x := S'.inj hy hx ny nx (by rw [← e1, ey])
        rw [← b] at r1
        rw [e2] at r1
        omega
  exact fun x => all (rk' x + 1) x (Nat.lt_succ_self _)
theorem Span.uniq_par (S : Span n rs s par idx D rk) (S' : Span n rs s par' idx' D' rk') (hn : rs.length + 1 = n) (x : Int) (hx : InV n x) (nx : x ≠ s) : par x = par' x := by
  obtain ⟨l, j, _⟩ := S.road x hx nx
  obtain ⟨m, j', _⟩ := S'.road x hx nx
  rw [S.uniq_idx S' hn x hx nx] at j
  rcases j.ends j' with ⟨a, b⟩ | ⟨a, b⟩
  · exact a.symm
  · rw [a, ← b]
theorem Span.uniq (S : Span n rs s par idx D rk) (S' : Span n rs s par' idx' D' rk') (hn : rs.length + 1 = n) : ∀ x, InV n x → D x = D' x := by
  have all : ∀ k x, rk' x < k → InV n x → D x = D' x := by
    intro k
    induction k with
    | zero => intro x h; omega
    | succ k ih =>
      intro x hk hx
      by_cases nx : x = s
      · rw [nx, S.start, S'.start]
      · obtain ⟨l, j, e⟩ := S.road x hx nx
        obtain ⟨m, j', e'⟩ := S'.road x hx nx
        rw [S.uniq_idx S' hn x hx nx] at j
        have := j.len j'
        have hp := S.uniq_par S' hn x hx nx
        have := ih (par' x) (by have := S'.rank x hx nx; omega) (S'.pin x hx nx)
        rw [e, e', hp]
        omega
  exact fun x => all (rk' x + 1) x (Nat.lt_succ_self _)
end

/-- the way up from x: k steps -/
def up (par : Int → Int) : Nat → Int → Int
  | 0, x => x
  | k + 1, x => up par k (par x)
theorem up_succ (par : Int → Int) : ∀ k x, up par (k + 1) x = par (up par k x)
  | 0, _ => rfl
  | k + 1, x => by
    show up par (k + 1) (par x) = par (up par k (par x))
    exact up_succ par k (par x)
section
variable {n : Nat} {rs : List Road} {s t : Int} {par par' : Int → Int} {idx idx' : Int → Nat} {D D' : Int → Int} {rk rk' : Int → Nat}
/-- every village comes up to s -/
theorem Span.reach (S : Span n rs s par idx D rk) : ∀ x, InV n x → ∃ k, up par k x = s ∧ ∀ j, j < k → InV n (up par j x) ∧ up par j x ≠ s := by
  have all : ∀ k x, rk x < k → InV n x → ∃ k, up par k x = s ∧ ∀ j, j < k → InV n (up par j x) ∧ up par j x ≠ s := by
    intro k
    induction k with
    | zero => intro x h; omega
    | succ k ih =>
      intro x hk hx
      by_cases nx : x = s
      · exact ⟨0, nx, fun j hj => absurd hj (Nat.not_lt_zero _)⟩
      · obtain ⟨m, h1, h2⟩ := ih (par x) (by have := S.rank x hx nx; omega) (S.pin x hx nx)
        refine ⟨m + 1, h1, fun j hj => ?_⟩
        cases j with
        | zero => exact ⟨hx, nx⟩
        | succ j => exact h2 j (by omega)
  exact fun x => all (rk x + 1) x (Nat.lt_succ_self _)
/-- from t up to s in the table of s: in the table of t the same roads, the other way -/
theorem Span.turn (S : Span n rs s par idx D rk) (T : Span n rs t par' idx' D' rk') (hn : rs.length + 1 = n) {k : Nat} (hk : ∀ j, j < k → InV n (up par j t) ∧ up par j t ≠ s) :
    ∀ j, j < k → InV n (up par (j + 1) t) ∧ up par (j + 1) t ≠ t ∧ idx' (up par (j + 1) t) = idx (up par j t) ∧ par' (up par (j + 1) t) = up par j t ∧ D' (up par (j + 1) t) + D (up par (j + 1) t) = D t := by
  intro j
  induction j with
  | zero =>
    intro hj
    obtain ⟨h1, h2⟩ := hk 0 hj
    obtain ⟨l, jn, e⟩ := S.road t h1 h2
    obtain ⟨y, hy, ny, ey⟩ := T.surj hn jn.lt
    obtain ⟨m, jy, ed⟩ := T.road y hy ny
    rw [ey] at jy
    have hne : par t ≠ t := fun z => by have := S.rank t h1 h2; rw [z] at this; omega
    rcases jn.ends jy with ⟨a, b⟩ | ⟨a, b⟩
    · exact absurd b ny
    · show InV n (par t) ∧ par t ≠ t ∧ idx' (par t) = idx t ∧ par' (par t) = t ∧ D' (par t) + D (par t) = D t
      rw [b] at a ey ed
      have := jn.len jy
      have e0 : D' t = 0 := T.start
      refine ⟨S.pin t h1 h2, hne, ey, a, ?_⟩
      rw [a, e0] at ed
      omega
  | succ j ih =>
    intro hj
    obtain ⟨i1, i2, i3, i4, i5⟩ := ih (by omega)
    obtain ⟨h1, h2⟩ := hk (j + 1) hj
    obtain ⟨g1, g2⟩ := hk j (by omega)
    rw [up_succ par (j + 1) t]
    generalize hz : up par (j + 1) t = z at *
    obtain ⟨l, jn, e⟩ := S.road z h1 h2
    obtain ⟨y, hy, ny, ey⟩ := T.surj hn jn.lt
    obtain ⟨m, jy, ed⟩ := T.road y hy ny
    rw [ey] at jy
    have hne : par z ≠ z := fun q => by have := S.rank z h1 h2; rw [q] at this; omega
    have noz : y ≠ z := fun q => by
      rw [q, i3] at ey
      have := S.inj g1 h1 g2 h2 ey
      have r := S.rank _ g1 g2
      have : par (up par j t) = z := by rw [← up_succ par j t]; exact hz
      rw [this] at r
      rw [‹up par j t = z›] at r
      omega
    rcases jn.ends jy with ⟨a, b⟩ | ⟨a, b⟩
    · exact absurd b noz
    · rw [b] at a ey ed ny
      have := jn.len jy
      rw [a] at ed
      refine ⟨S.pin z h1 h2, ny, ey, a, ?_⟩
      omega
/-- it is as far from t to s as from s to t -/
theorem Span.symm (S : Span n rs s par idx D rk) (T : Span n rs t par' idx' D' rk') (hn : rs.length + 1 = n) : D t = D' s := by
  obtain ⟨k, h1, h2⟩ := S.reach t T.ins
  cases k with
  | zero =>
    have h1 : t = s := h1
    rw [h1, S.start, ← h1, T.start]
  | succ k =>
    have := (S.turn T hn h2 k (Nat.lt_succ_self _)).2.2.2.2
    rw [h1, S.start] at this
    omega
/-- two villages are joined by one road at most -/
theorem Span.one (S : Span n rs s par idx D rk) (hn : rs.length + 1 = n) {i j : Nat} {l m y : Int} (h : Joins rs i s y l) (g : Joins rs j s y m) : i = j := by
  obtain ⟨x, hx, nx, ex⟩ := S.surj hn h.lt
  obtain ⟨z, hz, nz, ez⟩ := S.surj hn g.lt
  obtain ⟨_, jx, _⟩ := S.road x hx nx
  obtain ⟨_, jz, _⟩ := S.road z hz nz
  rw [ex] at jx
  rw [ez] at jz
  have e1 : x = y := by rcases h.ends jx with ⟨_, b⟩ | ⟨_, b⟩
                        · exact b
                        · exact absurd b nx
  have e2 : z = y := by rcases g.ends jz with ⟨_, b⟩ | ⟨_, b⟩
                        · exact b
                        · exact absurd b nz
  rw [← ex, ← ez, e1, e2]
end

/-! ### tables as they are filled -/
/-- a village, the one next to it towards the start, how far the start is -/
abbrev Ent := Int × Int × Int
def keys (tab : List Ent) : List Int := tab.map (·.1)
structure Tab (rs : List Road) (s : Int) (tab : List Ent) : Prop where
  hd : tab[0]? = some (s, s, 0)
  nd : (keys tab).Nodup
  en : ∀ (j : Nat) (x p d : Int), tab[j]? = some (x, p, d) → 0 < j → ∃ (j' : Nat) (q e : Int) (i : Nat) (l : Int), j' < j ∧ tab[j']? = some (p, q, e) ∧ Joins rs i p x l ∧ d = e + l
theorem mem_keys {tab : List Ent} {x : Int} : x ∈ keys tab ↔ ∃ p d, (x, p, d) ∈ tab := by
  unfold keys
  rw [List.mem_map]
  constructor
  · rintro ⟨⟨y, p, d⟩, h, rfl⟩; exact ⟨p, d, h⟩
  · rintro ⟨p, d, h⟩; exact ⟨_, h, rfl⟩
theorem keys_append (a b : List Ent) : keys (a ++ b) = keys a ++ keys b := List.map_append
theorem Tab.one (rs : List Road) (s : Int) : Tab rs s [(s, s, 0)] := by
  refine ⟨rfl, by simp [keys], fun j x p d h hj => ?_⟩
  cases j with
  | zero => omega
  | succ j => simp at h
section
variable {n : Nat} {rs : List Road} {s : Int} {tab : List Ent}
theorem Tab.start (T : Tab rs s tab) : (s, s, 0) ∈ tab := List.mem_of_getElem? T.hd
theorem Tab.skey (T : Tab rs s tab) : s ∈ keys tab := mem_keys.mpr ⟨_, _, T.start⟩
theorem nd_snoc {α : Type} {l : List α} {a : α} (h : l.Nodup) (ha : a ∉ l) : (l ++ [a]).Nodup := by
  rw [List.nodup_append]
  refine ⟨h, by simp, fun x hx y hy e => ?_⟩
  have := List.mem_singleton.mp hy
  subst this
  exact ha (e ▸ hx)
theorem Tab.snoc (T : Tab rs s tab) {p q e x l : Int} {i : Nat} (hp : (p, q, e) ∈ tab) (hj : Joins rs i p x l) (hx : x ∉ keys tab) : Tab rs s (tab ++ [(x, p, e + l)]) := by
  have hlen : 0 < tab.length := by
    have := T.hd
    cases tab with
    | nil => simp at this
    | cons _ _ => simp
  refine ⟨?_, ?_, fun j y r d h hj' => ?_⟩
  · rw [List.getElem?_append_left hlen]; exact T.hd
  · rw [keys_append]; exact nd_snoc T.nd hx
  · by_cases hlt : j < tab.length
    · rw [List.getElem?_append_left hlt] at h
      obtain ⟨j', q', e', i', l', h1, h2, h3⟩ := T.en j y r d h hj'
      exact ⟨j', q', e', i', l', h1, by rw [List.getElem?_append_left (by omega)]; exact h2, h3⟩
    · have hj2 : j = tab.length := by
        have := (List.getElem?_eq_some_iff.mp h).1
        simp at this; omega
      subst hj2
      rw [List.getElem?_append_right (Nat.le_refl _)] at h
      simp at h
      obtain ⟨rfl, rfl, rfl⟩ := h
      obtain ⟨j', hj1, hj2⟩ := List.mem_iff_getElem.mp hp
      exact ⟨j', q, e, i, l, hj1, by rw [List.getElem?_append_left hj1, List.getElem?_eq_getElem hj1, hj2], hj, rfl⟩
/-- what a table says of x -/
def look (tab : List Ent) (x : Int) : Option (Int × Int) := (tab.find? fun e => decide (e.1 = x)).map (·.2)
theorem look_mem {x p d : Int} (nd : (keys tab).Nodup) (h : (x, p, d) ∈ tab) : look tab x = some (p, d) := by
  induction tab with
  | nil => simp at h
  | cons a r ih =>
    unfold look keys at *
    rw [List.map_cons] at nd
    obtain ⟨n1, n2⟩ := List.nodup_cons.mp nd
    rw [List.find?_cons]
    rcases List.mem_cons.mp h with e | e
    · subst e; simp
    · have : ¬ a.1 = x := fun z => n1 (by rw [z]; exact List.mem_map.mpr ⟨_, e, rfl⟩)
      simp [this]
      simpa using ih n2 e
theorem nodup_place {α : Type} : ∀ {l : List α}, l.Nodup → ∀ {i j : Nat} {x : α}, l[i]? = some x → l[j]? = some x → i = j
  | [], _, i, j, x, h, _ => by simp at h
  | a :: r, nd, i, j, x, h, g => by
    obtain ⟨n1, n2⟩ := List.nodup_cons.mp nd
    cases i with
    | zero =>
      cases j with
      | zero => rfl
      | succ j =>
        simp at h g
        exact absurd (h ▸ List.mem_of_getElem? g) n1
    | succ i =>
      cases j with
      | zero =>
        simp at h g
        exact absurd (g ▸ List.mem_of_getElem? h) n1
      | succ j =>
        simp at h g
        rw [nodup_place n2 h g]
theorem keys_place (nd : (keys tab).Nodup) {i j : Nat} {x p d q e : Int} (h : tab[i]? = some (x, p, d)) (g : tab[j]? = some (x, q, e)) : i = j := by
  have h' : (keys tab)[i]? = some x := by unfold keys; rw [List.getElem?_map, h]; rfl
  have g' : (keys tab)[j]? = some x := by unfold keys; rw [List.getElem?_map, g]; rfl
  exact nodup_place nd h' g'
/-- a table with all villages gives a span -/
theorem Tab.span (T : Tab rs s tab) (hv : ∀ x, InV n x → x ∈ keys tab) (hs : InV n s) (hk : ∀ x ∈ keys tab, InV n x) :
    ∃ (par : Int → Int) (idx : Int → Nat) (D : Int → Int) (rk : Int → Nat), Span n rs s par idx D rk ∧ (∀ x p d, (x, p, d) ∈ tab → D x = d ∧ par x = p) := by
  have place : ∀ x, ∃ j : Nat, InV n x → ∃ p d, tab[j]? = some (x, p, d) := fun x => by
    by_cases h : InV n x
    · obtain ⟨p, d, hm⟩ := mem_keys.mp (hv x h)
      obtain ⟨j, hj⟩ := List.mem_iff_getElem?.mp hm
      exact ⟨j, fun _ => ⟨p, d, hj⟩⟩
    · exact ⟨0, fun q => absurd q h⟩
  let rk : Int → Nat := fun x => Classical.choose (place x)
  have hrk : ∀ x, InV n x → ∃ p d, tab[rk x]? = some (x, p, d) := fun x => Classical.choose_spec (place x)
  let par : Int → Int := fun x => ((look tab x).map (·.1)).getD 0
  let D : Int → Int := fun x => ((look tab x).map (·.2)).getD 0
  have val : ∀ x p d, (x, p, d) ∈ tab → D x = d ∧ par x = p := fun x p d h => by
    have := look_mem T.nd h
    exact ⟨by show ((look tab x).map (·.2)).getD 0 = d; rw [this]; rfl, by show ((look tab x).map (·.1)).getD 0 = p; rw [this]; rfl⟩
  have step : ∀ x, ∃ i : Nat, InV n x → x ≠ s → InV n (par x) ∧ rk (par x) < rk x ∧ ∃ l, Joins rs i (par x) x l ∧ D x = D (par x) + l := fun x => by
    by_cases h : InV n x ∧ x ≠ s
    · obtain ⟨hx, nx⟩ := h
      obtain ⟨p, d, hj⟩ := hrk x hx
      have h0 : 0 < rk x := by
        refine Nat.pos_of_ne_zero fun z => ?_
        rw [z, T.hd] at hj
        simp at hj
        exact nx hj.1.symm
      obtain ⟨j', q, e, i, l, h1, h2, h3, h4⟩ := T.en _ x p d hj h0
      obtain ⟨vd, vp⟩ := val x p d (List.mem_of_getElem? hj)
      obtain ⟨ve, _⟩ := val p q e (List.mem_of_getElem? h2)
      have hp : InV n p := hk p (mem_keys.mpr ⟨q, e, List.mem_of_getElem? h2⟩)
      obtain ⟨q', e', hj'⟩ := hrk p hp
      have := keys_place T.nd h2 hj'
      refine ⟨i, fun _ _ => ?_⟩
      rw [vp, vd, ve]
      exact ⟨hp, by omega, l, h3, h4⟩
    · exact ⟨0, fun a b => absurd ⟨a, b⟩ h⟩
  refine ⟨par, fun x => Classical.choose (step x), D, rk, ⟨(val s s 0 T.start).1, hs, fun x hx nx => ?_, fun x hx nx => ?_, fun x hx nx => ?_⟩, val⟩
  · exact (Classical.choose_spec (step x) hx nx).1
  · exact (Classical.choose_spec (step x) hx nx).2.1
  · exact (Classical.choose_spec (step x) hx nx).2.2
end

/-! ### trees -/
/-- from 0 one comes everywhere -/
def Conn (n : Nat) (rs : List Road) : Prop := ∀ K : Int → Prop, K 0 → (∀ i x y l, K x → Joins rs i x y l → K y) → ∀ v, InV n v → K v
structure Tree (n : Nat) (rs : List Road) : Prop where
  roads : Roads n rs
  count : rs.length + 1 = n
  conn : Conn n rs
section
variable {n : Nat} {rs : List Road} {s : Int} {tab : List Ent}
theorem Conn.from (C : Conn n rs) (h0 : InV n s) (K : Int → Prop) (hs : K s) (hc : ∀ i x y l, K x → Joins rs i x y l → K y) : ∀ v, InV n v → K v := by
  have k0 : K 0 := by
    refine Classical.byContradiction fun h => ?_
    exact C (fun v => ¬ K v) h (fun i x y l nx j ky => nx (hc i y x l ky j.symm)) s h0 hs
  exact C K k0 hc
/-- all roads at it are gone -/
def Closed (rs : List Road) (tab : List Ent) (x : Int) : Prop := ∀ (i : Nat) (y l : Int), Joins rs i x y l → y ∈ keys tab
theorem Tab.inv (T : Tab rs s tab) (R : Roads n rs) (hs : InV n s) : ∀ x ∈ keys tab, InV n x := by
  have all : ∀ (k j : Nat) (x p d : Int), j < k → tab[j]? = some (x, p, d) → InV n x := by
    intro k
    induction k with
    | zero => intro j x p d h; omega
    | succ k ih =>
      intro j x p d hj h
      cases j with
      | zero =>
        rw [T.hd] at h
        simp at h
        rw [← h.1]; exact hs
      | succ j =>
        obtain ⟨j', q, e, i, l, h1, h2, h3, h4⟩ := T.en _ x p d h (Nat.succ_pos _)
        exact (R.joins h3).2.1
  intro x hx
  obtain ⟨p, d, hm⟩ := mem_keys.mp hx
  obtain ⟨j, hj⟩ := List.mem_iff_getElem?.mp hm
  exact all (j + 1) j x p d (Nat.lt_succ_self _) hj
theorem keys_length (tab : List Ent) : (keys tab).length = tab.length := by simp [keys]
theorem Tab.le (T : Tab rs s tab) (R : Roads n rs) (hs : InV n s) : tab.length ≤ n := by
  have := nodup_le T.nd (m := vil n) fun x hx => mem_vil.mpr (T.inv R hs x hx)
  rw [vil_length, keys_length] at this
  exact this
theorem Tab.all (T : Tab rs s tab) (C : Conn n rs) (hs : InV n s) (hc : ∀ x ∈ keys tab, Closed rs tab x) : ∀ x, InV n x → x ∈ keys tab :=
  C.from hs (fun x => x ∈ keys tab) T.skey fun i x y l kx j => hc x kx i y l j
theorem Tab.full (T : Tab rs s tab) (R : Roads n rs) (C : Conn n rs) (hs : InV n s) (hc : ∀ x ∈ keys tab, Closed rs tab x) : tab.length = n := by
  have h1 := T.le R hs
  have h2 := nodup_le (vil_nodup n) (m := keys tab) fun x hx => T.all C hs hc x (mem_vil.mp hx)
  rw [vil_length, keys_length] at h2
  omega
/-- as many as villages come: connected -/
theorem Tab.conn (T : Tab rs 0 tab) (R : Roads n rs) (h0 : InV n 0) (hl : tab.length = n) : Conn n rs := by
  intro K k0 hc v hv
  have all : ∀ (k j : Nat) (x p d : Int), j < k → tab[j]? = some (x, p, d) → K x := by
    intro k
    induction k with
    | zero => intro j x p d h; omega
    | succ k ih =>
      intro j x p d hj h
      cases j with
      | zero =>
        rw [T.hd] at h
        simp at h
        rw [← h.1]; exact k0
      | succ j =>
        obtain ⟨j', q, e, i, l, h1, h2, h3, h4⟩ := T.en _ x p d h (Nat.succ_pos _)
        exact hc i p x l (ih j' p q e (by omega) h2) h3
  have hm : v ∈ keys tab := nodup_all T.nd (m := vil n) (fun x hx => mem_vil.mpr (T.inv R h0 x hx)) (by rw [vil_length, keys_length, hl]; exact Nat.le_refl _) v (mem_vil.mpr hv)
  obtain ⟨p, d, hm⟩ := mem_keys.mp hm
  obtain ⟨j, hj⟩ := List.mem_iff_getElem?.mp hm
  exact all (j + 1) j v p d (Nat.lt_succ_self _) hj
end
end WR
namespace WR
/-! ### the steps from a village -/
def stepsOf (r : Road) (v : Int) : List (Int × Int) := (if r.1 = v then [(r.2.1, r.2.2)] else []) ++ (if r.2.1 = v then [(r.1, r.2.2)] else [])
def stepsM (rs : List Road) (v : Int) : List (Int × Int) := rs.flatMap fun r => stepsOf r v
theorem stepsM_take {rs : List Road} {v : Int} {i : Nat} {r : Road} (h : rs[i]? = some r) : stepsM (rs.take (i + 1)) v = stepsM (rs.take i) v ++ stepsOf r v := by
  unfold stepsM
  rw [List.take_add_one, h, List.flatMap_append]
  simp
theorem mem_stepsOf {r : Road} {v y l : Int} : (y, l) ∈ stepsOf r v ↔ r = (v, y, l) ∨ r = (y, v, l) := by
  obtain ⟨a, b, c⟩ := r
  unfold stepsOf
  rw [List.mem_append]
  simp only [Prod.mk.injEq]
  constructor
  · rintro (h | h)
    · split at h
      · simp at h; omega
      · simp at h
    · split at h
      · simp at h; omega
      · simp at h
  · rintro (⟨h1, h2, h3⟩ | ⟨h1, h2, h3⟩)
    · left; simp [h1, h2, h3]
    · right; simp [h1, h2, h3]
theorem mem_stepsM {rs : List Road} {v y l : Int} : (y, l) ∈ stepsM rs v ↔ ∃ i, Joins rs i v y l := by
  unfold stepsM
  rw [List.mem_flatMap]
  constructor
  · rintro ⟨r, hr, h⟩
    obtain ⟨i, hi⟩ := List.mem_iff_getElem?.mp hr
    refine ⟨i, ?_⟩
    rcases mem_stepsOf.mp h with e | e
    · left; rw [hi, e]
    · right; rw [hi, e]
  · rintro ⟨i, h | h⟩
    · exact ⟨_, List.mem_of_getElem? h, mem_stepsOf.mpr (.inl rfl)⟩
    · exact ⟨_, List.mem_of_getElem? h, mem_stepsOf.mpr (.inr rfl)⟩
theorem stepsOf_length (r : Road) (v : Int) : (stepsOf r v).length ≤ 2 := by
  unfold stepsOf
  split <;> split <;> simp
theorem stepsM_length (rs : List Road) (v : Int) : (stepsM rs v).length ≤ 2 * rs.length := by
  unfold stepsM
  induction rs with
  | nil => simp
  | cons r t ih =>
    rw [List.flatMap_cons, List.length_append, List.length_cons]
    have := stepsOf_length r v
    omega

/-! ### the walk from s -/
structure RI (rs : List Road) (s : Int) (tab : List Ent) (ws : List Int) : Prop where
  T : Tab rs s tab
  sub : ∀ x ∈ ws, x ∈ keys tab
  cl : ∀ x ∈ keys tab, x ∉ ws → Closed rs tab x
structure RJ (rs : List Road) (s h : Int) (j : Nat) (tab : List Ent) (ws : List Int) : Prop where
  T : Tab rs s tab
  sub : ∀ x ∈ ws, x ∈ keys tab
  here : h ∈ keys tab
  cl : ∀ x ∈ keys tab, x ∉ ws → x ≠ h → Closed rs tab x
  done : ∀ y l, (y, l) ∈ (stepsM rs h).take j → y ∈ keys tab
section
variable {rs : List Road} {s h : Int} {j : Nat} {tab : List Ent} {ws : List Int}
theorem RI.begin (rs : List Road) (s : Int) : RI rs s [(s, s, 0)] [s] := by
  refine ⟨Tab.one rs s, fun x hx => ?_, fun x hx nx => ?_⟩
  · simpa [keys] using hx
  · exact absurd (by simpa [keys] using hx) nx
theorem RI.pop (I : RI rs s tab (ws ++ [h])) : RJ rs s h 0 tab ws :=
  ⟨I.T, fun x hx => I.sub x (List.mem_append_left _ hx), I.sub h (by simp), fun x hx nx ne => I.cl x hx (by simp [nx, ne]), fun y l m => by simp at m⟩
theorem Closed.more {tab more : List Ent} {x : Int} (c : Closed rs tab x) : Closed rs (tab ++ more) x := fun i y l jn => by
  rw [keys_append]
  exact List.mem_append_left _ (c i y l jn)
theorem take_next {α : Type} {l : List α} {j : Nat} {a x : α} (h : l[j]? = some a) (m : x ∈ l.take (j + 1)) : x ∈ l.take j ∨ x = a := by
  rw [List.take_add_one, h] at m
  simpa using m
theorem RJ.skip (I : RJ rs s h j tab ws) {y l : Int} (e : (stepsM rs h)[j]? = some (y, l)) (k : y ∈ keys tab) : RJ rs s h (j + 1) tab ws :=
  ⟨I.T, I.sub, I.here, I.cl, fun z m hm => by
    rcases take_next e hm with q | q
    · exact I.done z m q
    · simp at q; rw [q.1]; exact k⟩
theorem RJ.add (I : RJ rs s h j tab ws) {y l q d : Int} (e : (stepsM rs h)[j]? = some (y, l)) (k : y ∉ keys tab) (hq : (h, q, d) ∈ tab) : RJ rs s h (j + 1) (tab ++ [(y, h, d + l)]) (ws ++ [y]) := by
  obtain ⟨i, jn⟩ := mem_stepsM.mp (List.mem_of_getElem? e)
  have ky : y ∈ keys (tab ++ [(y, h, d + l)]) := by rw [keys_append]; simp [keys]
  have mono : ∀ x, x ∈ keys tab → x ∈ keys (tab ++ [(y, h, d + l)]) := fun x hx => by rw [keys_append]; exact List.mem_append_left _ hx
  refine ⟨I.T.snoc hq jn k, fun x hx => ?_, mono _ I.here, fun x hx nx ne => ?_, fun z m hm => ?_⟩
  · rcases List.mem_append.mp hx with z | z
    · exact mono x (I.sub x z)
    · rw [List.mem_singleton.mp z]; exact ky
  · rw [keys_append] at hx
    rcases List.mem_append.mp hx with z | z
    · exact (I.cl x z (fun m => nx (List.mem_append_left _ m)) ne).more
    · exact absurd (by simpa [keys] using z) (fun z : x = y => nx (by rw [z]; simp))
  · rcases take_next e hm with q | q
    · exact mono z (I.done z m q)
    · simp at q; rw [q.1]; exact ky
theorem RJ.fin (I : RJ rs s h (stepsM rs h).length tab ws) : RI rs s tab ws :=
  ⟨I.T, I.sub, fun x hx nx => by
    by_cases e : x = h
    · subst e
      intro i y l jn
      exact I.done y l (by rw [List.take_length]; exact mem_stepsM.mpr ⟨i, jn⟩)
    · exact I.cl x hx nx e⟩
theorem RI.fin (I : RI rs s tab []) : ∀ x ∈ keys tab, Closed rs tab x := fun x hx => I.cl x hx (by simp)
theorem Tab.key_end (T : Tab rs s tab) : ∀ x ∈ keys tab, x ∈ s :: (rs.map (·.1) ++ rs.map (·.2.1)) := by
  intro x hx
  obtain ⟨p, d, hm⟩ := mem_keys.mp hx
  obtain ⟨j, hj⟩ := List.mem_iff_getElem?.mp hm
  cases j with
  | zero =>
    rw [T.hd] at hj
    simp at hj
    rw [hj.1]; simp
  | succ j =>
    obtain ⟨j', q, e, i, l, h1, h2, h3, h4⟩ := T.en _ x p d hj (Nat.succ_pos _)
    refine List.mem_cons_of_mem _ (List.mem_append.mpr ?_)
    rcases h3 with z | z
    · right; exact List.mem_map.mpr ⟨_, List.mem_of_getElem? z, rfl⟩
    · left; exact List.mem_map.mpr ⟨_, List.mem_of_getElem? z, rfl⟩
theorem Tab.bound (T : Tab rs s tab) : tab.length ≤ 2 * rs.length + 1 := by
  have := nodup_le T.nd T.key_end
  rw [keys_length, List.length_cons, List.length_append, List.length_map, List.length_map] at this
  omega
end

/-! ### the law's own walk -/
def dist (tab : List Ent) (x : Int) : Int := ((look tab x).map (·.2)).getD 0
def relax1 (tab : List Ent) (r : Road) : List Ent :=
  if r.1 ∈ keys tab ∧ r.2.1 ∉ keys tab then tab ++ [(r.2.1, r.1, dist tab r.1 + r.2.2)]
  else if r.2.1 ∈ keys tab ∧ r.1 ∉ keys tab then tab ++ [(r.1, r.2.1, dist tab r.2.1 + r.2.2)] else tab
def relaxR (rs : List Road) (tab : List Ent) : List Ent := rs.foldl relax1 tab
def relaxN (rs : List Road) : Nat → List Ent → List Ent
  | 0, tab => tab
  | k + 1, tab => relaxR rs (relaxN rs k tab)
section
variable {n : Nat} {rs : List Road} {s : Int} {tab : List Ent}
theorem look_key {x : Int} (nd : (keys tab).Nodup) (h : x ∈ keys tab) : ∃ p, (x, p, dist tab x) ∈ tab := by
  obtain ⟨p, d, hm⟩ := mem_keys.mp h
  refine ⟨p, ?_⟩
  have := look_mem nd hm
  unfold dist
  rw [this]
  exact hm
theorem relax1_more (tab : List Ent) (r : Road) : ∃ more, relax1 tab r = tab ++ more := by
  unfold relax1
  split
  · exact ⟨_, rfl⟩
  · split
    · exact ⟨_, rfl⟩
    · exact ⟨[], by simp⟩
theorem Tab.relax1 (T : Tab rs s tab) {i : Nat} {r : Road} (h : rs[i]? = some r) : Tab rs s (WR.relax1 tab r) := by
  obtain ⟨a, b, l⟩ := r
  unfold WR.relax1
  split
  · rename_i c
    obtain ⟨p, hp⟩ := look_key T.nd c.1
    exact T.snoc hp (i := i) (.inl h) c.2
  · split
    · rename_i c
      obtain ⟨p, hp⟩ := look_key T.nd c.1
      exact T.snoc hp (i := i) (.inr h) c.2
    · exact T
theorem foldl_more (f : List Ent → Road → List Ent) (hf : ∀ t r, ∃ more, f t r = t ++ more) : ∀ (l : List Road) (t : List Ent), ∃ more, l.foldl f t = t ++ more
  | [], t => ⟨[], by simp⟩
  | r :: l, t => by
    obtain ⟨m1, e1⟩ := hf t r
    obtain ⟨m2, e2⟩ := foldl_more f hf l (f t r)
    exact ⟨m1 ++ m2, by rw [List.foldl_cons, e2, e1, List.append_assoc]⟩
theorem Tab.relaxL (T : Tab rs s tab) : ∀ (l : List Road), (∀ r ∈ l, r ∈ rs) → Tab rs s (l.foldl WR.relax1 tab) := by
  intro l
  induction l generalizing tab with
  | nil => intro _; exact T
  | cons r l ih =>
    intro h
    obtain ⟨i, hi⟩ := List.mem_iff_getElem?.mp (h r List.mem_cons_self)
    rw [List.foldl_cons]
    exact ih (T.relax1 hi) fun q hq => h q (List.mem_cons_of_mem _ hq)
theorem Tab.relaxR (T : Tab rs s tab) : Tab rs s (WR.relaxR rs tab) := T.relaxL rs fun _ h => h
theorem Tab.relaxN (T : Tab rs s tab) : ∀ k, Tab rs s (WR.relaxN rs k tab)
  | 0 => T
  | k + 1 => (T.relaxN k).relaxR
/-- one round more: one village more, if there is one -/
theorem relax_grow (T : Tab rs s tab) (C : Conn n rs) (hs : InV n s) (hlt : ∃ x, InV n x ∧ x ∉ keys tab) : tab.length + 1 ≤ (WR.relaxR rs tab).length := by
  have hex : ∃ i x y l, Joins rs i x y l ∧ x ∈ keys tab ∧ y ∉ keys tab := by
    refine Classical.byContradiction fun hn => ?_
    obtain ⟨x, hx, nx⟩ := hlt
    refine nx (T.all C hs (fun z hz i y l jn => ?_) x hx)
    exact Classical.byContradiction fun q => hn ⟨i, z, y, l, jn, hz, q⟩
  obtain ⟨i, x, y, l, jn, kx, ky⟩ := hex
  have grow : ∀ t : List Ent, (∃ more, t = tab ++ more) → y ∈ keys t → tab.length + 1 ≤ t.length := by
    rintro t ⟨more, rfl⟩ hy
    cases more with
    | nil => simp at hy; exact absurd hy ky
    | cons _ _ => simp
  have hi := jn.lt
  unfold WR.relaxR
  have split : rs = rs.take i ++ rs[i] :: rs.drop (i + 1) := by
    rw [← List.drop_eq_getElem_cons hi, List.take_append_drop]
  have hr : rs[i]? = some rs[i] := List.getElem?_eq_getElem hi
  generalize rs[i] = r at split hr
  rw [split, List.foldl_append, List.foldl_cons]
  obtain ⟨m1, e1⟩ := foldl_more relax1 relax1_more (rs.take i) tab
  obtain ⟨m2, e2⟩ := relax1_more ((rs.take i).foldl relax1 tab) r
  obtain ⟨m3, e3⟩ := foldl_more relax1 relax1_more (rs.drop (i + 1)) (relax1 ((rs.take i).foldl relax1 tab) r)
  have T1 : Tab rs s ((rs.take i).foldl relax1 tab) := T.relaxL _ fun q hq => List.mem_of_mem_take hq
  have kx1 : x ∈ keys ((rs.take i).foldl relax1 tab) := by rw [e1, keys_append]; exact List.mem_append_left _ kx
  have step : y ∈ keys (relax1 ((rs.take i).foldl relax1 tab) r) := by
    by_cases hy : y ∈ keys ((rs.take i).foldl relax1 tab)
    · rw [e2, keys_append]; exact List.mem_append_left _ hy
    · unfold relax1
      rcases jn with z | z
      · rw [hr] at z
        have z := Option.some.inj z
        subst z
        rw [if_pos ⟨kx1, hy⟩, keys_append]
        simp [keys]
      · rw [hr] at z
        have z := Option.some.inj z
        subst z
        rw [if_neg (fun c => hy c.1), if_pos ⟨kx1, hy⟩, keys_append]
        simp [keys]
  refine grow _ ⟨m1 ++ m2 ++ m3, by rw [e3, e2, e1]; simp⟩ ?_
  rw [e3, keys_append]
  exact List.mem_append_left _ step
theorem relaxN_len (T : Tab rs s tab) (R : Roads n rs) (C : Conn n rs) (hs : InV n s) : ∀ k, min n (tab.length + k) ≤ (relaxN rs k tab).length
  | 0 => by simp only [relaxN]; omega
  | k + 1 => by
    have ih := relaxN_len T R C hs k
    have Tk := T.relaxN k
    by_cases h : ∃ x, InV n x ∧ x ∉ keys (relaxN rs k tab)
    · have := relax_grow Tk C hs h
      show _ ≤ (relaxR rs (relaxN rs k tab)).length
      omega
    · have h2 := nodup_le (vil_nodup n) (m := keys (relaxN rs k tab)) fun x hx => Classical.byContradiction fun q => h ⟨x, mem_vil.mp hx, q⟩
      rw [vil_length, keys_length] at h2
      obtain ⟨m, e⟩ := foldl_more relax1 relax1_more rs (relaxN rs k tab)
      show _ ≤ (relaxR rs (relaxN rs k tab)).length
      unfold relaxR
      rw [e, List.length_append]
      omega
/-- after n rounds all villages are there -/
theorem relax_all (R : Roads n rs) (C : Conn n rs) (hs : InV n s) : ∀ x, InV n x → x ∈ keys (relaxN rs n [(s, s, 0)]) := by
  intro x hx
  have T := (Tab.one rs s).relaxN n
  have := relaxN_len (Tab.one rs s) R C hs n
  have l2 : n ≤ (relaxN rs n [(s, s, 0)]).length := by omega
  exact nodup_all T.nd (m := vil n) (fun y hy => mem_vil.mpr (T.inv R hs y hy)) (by rw [vil_length, keys_length]; exact l2) x (mem_vil.mpr hx)
end

/-! ### how far it is -/
/-- by the law's own walk -/
def far (n : Nat) (rs : List Road) (s x : Int) : Int := dist (relaxN rs n [(s, s, 0)]) x
section
variable {n : Nat} {rs : List Road} {s t : Int} {tab : List Ent}
theorem dist_mem {x p d : Int} (nd : (keys tab).Nodup) (h : (x, p, d) ∈ tab) : dist tab x = d := by
  unfold dist
  rw [look_mem nd h]
  rfl
theorem Span.congr {par : Int → Int} {idx : Int → Nat} {D D' : Int → Int} {rk : Int → Nat} (S : Span n rs s par idx D rk) (e : ∀ x, InV n x → D x = D' x) : Span n rs s par idx D' rk :=
  ⟨by rw [← e s S.ins]; exact S.start, S.ins, S.pin, S.rank, fun x hx nx => by
    obtain ⟨l, j, h⟩ := S.road x hx nx
    exact ⟨l, j, by rw [← e x hx, ← e _ (S.pin x hx nx)]; exact h⟩⟩
theorem Tree.span (W : Tree n rs) (hs : InV n s) : ∃ (par : Int → Int) (idx : Int → Nat) (rk : Int → Nat), Span n rs s par idx (far n rs s) rk := by
  have T := (Tab.one rs s).relaxN n
  obtain ⟨par, idx, D, rk, S, v⟩ := T.span (relax_all W.roads W.conn hs) hs (T.inv W.roads hs)
  refine ⟨par, idx, rk, S.congr fun x hx => ?_⟩
  obtain ⟨p, d, hm⟩ := mem_keys.mp (relax_all W.roads W.conn hs x hx)
  rw [(v x p d hm).1]
  exact (dist_mem T.nd hm).symm
/-- every table of ways tells the same -/
theorem Tree.table (W : Tree n rs) (hs : InV n s) (T : Tab rs s tab) (hc : ∀ x ∈ keys tab, Closed rs tab x) :
    ∃ (par : Int → Int) (idx : Int → Nat) (rk : Int → Nat), Span n rs s par idx (far n rs s) rk ∧ (∀ x, InV n x → x ∈ keys tab) ∧ (∀ x ∈ keys tab, InV n x) ∧ ∀ x p d, (x, p, d) ∈ tab → d = far n rs s x ∧ par x = p := by
  have hv := T.all W.conn hs hc
  have hk := T.inv W.roads hs
  obtain ⟨par, idx, D, rk, S, v⟩ := T.span hv hs hk
  obtain ⟨par', idx', rk', S'⟩ := W.span hs
  have e := S.uniq S' W.count
  refine ⟨par, idx, rk, S.congr e, hv, hk, fun x p d hm => ?_⟩
  obtain ⟨h1, h2⟩ := v x p d hm
  exact ⟨by rw [← h1]; exact e x (hk x (mem_keys.mpr ⟨p, d, hm⟩)), h2⟩
end

/-! ### what makes a tree -/
theorem InV.zero {n : Nat} (h : 0 < n) : InV n 0 := ⟨Int.le_refl _, by omega⟩
/-- the count of what is reached from 0 tells a tree -/
theorem tree_iff {n : Nat} {rs : List Road} {tab : List Ent} (R : Roads n rs) (hl : rs.length + 1 = n) (T : Tab rs 0 tab) (hc : ∀ x ∈ keys tab, Closed rs tab x) : tab.length = n ↔ Tree n rs := by
  have h0 : InV n 0 := InV.zero (by omega)
  constructor
  · intro e
    exact ⟨R, hl, T.conn R h0 e⟩
  · intro W
    exact T.full R W.conn h0 hc
end WR
namespace WR
/-! ### the villages' names -/
def nameM (k n turn : Int) : Int := if 1 < n ∧ (turn = 1 ∨ n % turn ≠ 0) then k * turn % n else k
theorem nameM_all : ∀ (n : Fin 12) (t : Fin 4) (k j : Fin 12), k.val < n.val + 1 → j.val < n.val + 1 →
    (0 ≤ nameM k.val (n.val + 1 : Nat) ([1, 5, 7, 11].getD t.val 1) ∧ nameM k.val (n.val + 1 : Nat) ([1, 5, 7, 11].getD t.val 1) < (n.val + 1 : Nat)) ∧
    (nameM k.val (n.val + 1 : Nat) ([1, 5, 7, 11].getD t.val 1) = nameM j.val (n.val + 1 : Nat) ([1, 5, 7, 11].getD t.val 1) → k = j) := by
  decide +kernel
def IsTurn (t : Int) : Prop := t = 1 ∨ t = 5 ∨ t = 7 ∨ t = 11
theorem IsTurn.at {t : Int} (h : IsTurn t) : ∃ i : Fin 4, ([1, 5, 7, 11] : List Int).getD i.val 1 = t := by
  rcases h with rfl | rfl | rfl | rfl
  · exact ⟨0, rfl⟩
  · exact ⟨1, rfl⟩
  · exact ⟨2, rfl⟩
  · exact ⟨3, rfl⟩
theorem name_in {n k : Nat} {t : Int} (ht : IsTurn t) (hn : n ≤ 12) (hk : k < n) : InV n (nameM k n t) := by
  obtain ⟨i, rfl⟩ := ht.at
  obtain ⟨m, rfl⟩ : ∃ m, n = m + 1 := ⟨n - 1, by omega⟩
  exact (nameM_all ⟨m, by omega⟩ i ⟨k, by omega⟩ ⟨k, by omega⟩ hk hk).1
theorem name_inj {n k j : Nat} {t : Int} (ht : IsTurn t) (hn : n ≤ 12) (hk : k < n) (hj : j < n) (e : nameM k n t = nameM j n t) : k = j := by
  obtain ⟨i, rfl⟩ := ht.at
  obtain ⟨m, rfl⟩ : ∃ m, n = m + 1 := ⟨n - 1, by omega⟩
  have := (nameM_all ⟨m, by omega⟩ i ⟨k, by omega⟩ ⟨j, by omega⟩ hk hj).2 e
  exact congrArg Fin.val this
theorem name_zero (n t : Int) : nameM 0 n t = 0 := by
  unfold nameM
  split
  · rw [Int.zero_mul, Int.zero_emod]
  · rfl
/-- every village is named -/
theorem name_surj {n : Nat} {t : Int} (ht : IsTurn t) (hn : n ≤ 12) {x : Int} (hx : InV n x) : ∃ k : Nat, k < n ∧ nameM k n t = x := by
  have nd : ((List.range n).map fun (k : Nat) => nameM k n t).Nodup := map_nodup_on List.nodup_range fun a ha b hb e => name_inj ht hn (List.mem_range.mp ha) (List.mem_range.mp hb) e
  have := nodup_all nd (m := vil n) (fun y hy => by
    obtain ⟨k, hk, rfl⟩ := List.mem_map.mp hy
    exact mem_vil.mpr (name_in ht hn (List.mem_range.mp hk))) (by simp [vil_length]) x (mem_vil.mpr hx)
  obtain ⟨k, hk, e⟩ := List.mem_map.mp this
  exact ⟨k, List.mem_range.mp hk, e⟩

/-! ### a tree that grows -/
/-- the first k villages are joined -/
structure Built (n : Nat) (t : Int) (k : Nat) (rs : List Road) : Prop where
  len : rs.length + 1 = k
  roads : Roads n rs
  conn : ∀ K : Int → Prop, K 0 → (∀ i x y l, K x → Joins rs i x y l → K y) → ∀ j : Nat, j < k → K (nameM j n t)
theorem Built.begin (n : Nat) (t : Int) : Built n t 1 [] := by
  refine ⟨rfl, ⟨by simp, by simp, by simp, by simp⟩, fun K k0 _ j hj => ?_⟩
  have : j = 0 := by omega
  subst this
  show K (nameM 0 n t)
  rw [name_zero]
  exact k0
/-- r put in at place p -/
def putAt {α : Type} (rs : List α) (p : Nat) (r : α) : List α := rs.take p ++ r :: rs.drop p
theorem mem_putAt {α : Type} {rs : List α} {p : Nat} {r x : α} : x ∈ putAt rs p r ↔ x = r ∨ x ∈ rs := by
  unfold putAt
  rw [List.mem_append, List.mem_cons]
  constructor
  · rintro (h | h | h)
    · exact .inr (List.mem_of_mem_take h)
    · exact .inl h
    · exact .inr (List.mem_of_mem_drop h)
  · rintro (h | h)
    · exact .inr (.inl h)
    · rw [← List.take_append_drop p rs] at h
      rcases List.mem_append.mp h with h | h
      · exact .inl h
      · exact .inr (.inr h)
theorem length_putAt {α : Type} {rs : List α} {p : Nat} {r : α} (hp : p ≤ rs.length) : (putAt rs p r).length = rs.length + 1 := by
  unfold putAt
  rw [List.length_append, List.length_take, List.length_cons, List.length_drop]
  omega
theorem joins_mem {rs : List Road} {x y l : Int} : (∃ i, Joins rs i x y l) ↔ (x, y, l) ∈ rs ∨ (y, x, l) ∈ rs := by
  constructor
  · rintro ⟨i, h | h⟩
    · exact .inl (List.mem_of_getElem? h)
    · exact .inr (List.mem_of_getElem? h)
  · rintro (h | h)
    · obtain ⟨i, hi⟩ := List.mem_iff_getElem?.mp h
      exact ⟨i, .inl hi⟩
    · obtain ⟨i, hi⟩ := List.mem_iff_getElem?.mp h
      exact ⟨i, .inr hi⟩
theorem Built.step {n k : Nat} {t : Int} {rs : List Road} (B : Built n t k rs) (ht : IsTurn t) (hn : n ≤ 12) (hk : k < n) {a p : Nat} {l : Int} {r : Road} (ha : a < k) (hp : p ≤ rs.length) (l1 : 1 ≤ l) (l2 : l ≤ 1000000)
    (hr : r = (nameM k n t, nameM a n t, l) ∨ r = (nameM a n t, nameM k n t, l)) : Built n t (k + 1) (putAt rs p r) := by
  have hin1 := name_in ht hn hk
  have hin2 := name_in ht hn (show a < n by omega)
  have hne : nameM k n t ≠ nameM a n t := fun e => by have := name_inj ht hn hk (by omega) e; omega
  refine ⟨by rw [length_putAt hp, B.len], ⟨fun q hq => ?_, fun q hq => ?_, fun q hq => ?_, fun q hq => ?_⟩, fun K k0 hc j hj => ?_⟩
  · rcases mem_putAt.mp hq with rfl | h
    · rcases hr with rfl | rfl
      · exact ⟨hin1.1, hin2.1⟩
      · exact ⟨hin2.1, hin1.1⟩
    · exact B.roads.lo q h
  · rcases mem_putAt.mp hq with rfl | h
    · rcases hr with rfl | rfl
      · exact ⟨hin1.2, hin2.2⟩
      · exact ⟨hin2.2, hin1.2⟩
    · exact B.roads.hi q h
  · rcases mem_putAt.mp hq with rfl | h
    · rcases hr with rfl | rfl
      · exact hne
      · exact hne.symm
    · exact B.roads.ne q h
  · rcases mem_putAt.mp hq with rfl | h
    · rcases hr with rfl | rfl <;> exact ⟨l1, l2⟩
    · exact B.roads.ps q h
  · have old : ∀ j : Nat, j < k → K (nameM j n t) := B.conn K k0 fun i x y m kx jn => by
      have hm := joins_mem.mp ⟨i, jn⟩
      obtain ⟨i', jn'⟩ := (joins_mem (rs := putAt rs p r) (x := x) (y := y) (l := m)).mpr (hm.imp (fun h => mem_putAt.mpr (.inr h)) fun h => mem_putAt.mpr (.inr h))
      exact hc i' x y m kx jn'
    by_cases e : j < k
    · exact old j e
    · have : j = k := by omega
      subst this
      have hm : (nameM a n t, nameM j n t, l) ∈ putAt rs p r ∨ (nameM j n t, nameM a n t, l) ∈ putAt rs p r := by
        rcases hr with h | h
        · exact .inr (mem_putAt.mpr (.inl h.symm))
        · exact .inl (mem_putAt.mpr (.inl h.symm))
      obtain ⟨i', jn'⟩ := joins_mem.mpr hm
      exact hc i' _ _ l (old a ha) jn'
theorem Built.tree {n : Nat} {t : Int} {rs : List Road} (B : Built n t n rs) (ht : IsTurn t) (hn : n ≤ 12) : Tree n rs :=
  ⟨B.roads, B.len, fun K k0 hc v hv => by
    obtain ⟨k, hk, rfl⟩ := name_surj ht hn hv
    exact B.conn K k0 hc k hk⟩
end WR
namespace WR
/-- the villages on the way up from t, k steps -/
def upList (par : Int → Int) (k : Nat) (t : Int) : List Int := (List.range (k + 1)).map fun (j : Nat) => up par j t
section
variable {n : Nat} {rs : List Road} {s t : Int} {par : Int → Int} {idx : Int → Nat} {D : Int → Int} {rk : Int → Nat}
end
end WR
namespace WR
/-! ### the sides of a road -/
/-- one comes from s to it without the road at i -/
inductive Clo (rs : List Road) (i : Nat) (s : Int) : Int → Prop where
  | refl : Clo rs i s s
  | step {x y l : Int} {j : Nat} : Clo rs i s x → j ≠ i → Joins rs j x y l → Clo rs i s y
theorem Clo.trans {rs : List Road} {i : Nat} {s x y : Int} (h : Clo rs i s x) (g : Clo rs i x y) : Clo rs i s y := by
  induction g with
  | refl => exact h
  | step _ n j ih => exact ih.step n j
theorem Clo.head {rs : List Road} {i j : Nat} {s x l : Int} (n : j ≠ i) (h : Joins rs j s x l) : Clo rs i s x := Clo.refl.step n h
theorem Clo.symm {rs : List Road} {i : Nat} {s x : Int} (h : Clo rs i s x) : Clo rs i x s := by
  induction h with
  | refl => exact .refl
  | step _ n j ih => exact (Clo.head n j.symm).trans ih
theorem Clo.inV {n : Nat} {rs : List Road} {i : Nat} {s x : Int} (R : Roads n rs) (hs : InV n s) (h : Clo rs i s x) : InV n x := by
  induction h with
  | refl => exact hs
  | step _ _ j _ => exact (R.joins j).2.1
section
variable {n : Nat} {rs : List Road} {s : Int} {par : Int → Int} {idx : Int → Nat} {D : Int → Int} {rk : Int → Nat}
theorem Span.count_le (S : Span n rs s par idx D rk) : n ≤ rs.length + 1 := by
  have hs : s ∈ vil n := mem_vil.mpr S.ins
  have mem : ∀ x, x ∈ (vil n).erase s → InV n x ∧ x ≠ s := fun x hx => by
    have := (List.Nodup.mem_erase_iff (vil_nodup n)).mp hx
    exact ⟨mem_vil.mp this.2, this.1⟩
  have nd : (((vil n).erase s).map idx).Nodup := map_nodup_on ((vil_nodup n).erase s) fun x hx y hy e => S.inj (mem x hx).1 (mem y hy).1 (mem x hx).2 (mem y hy).2 e
  have sub : ∀ j ∈ ((vil n).erase s).map idx, j ∈ List.range rs.length := fun j hj => by
    obtain ⟨x, hx, rfl⟩ := List.mem_map.mp hj
    obtain ⟨l, jn, _⟩ := S.road x (mem x hx).1 (mem x hx).2
    exact List.mem_range.mpr jn.lt
  have := nodup_le nd sub
  rw [List.length_map, List.length_erase_of_mem hs, vil_length, List.length_range] at this
  omega
theorem joins_erase {rs : List Road} {i j : Nat} {x y l : Int} (h : Joins rs j x y l) (n : j ≠ i) : ∃ k, Joins (rs.eraseIdx i) k x y l := by
  by_cases c : j < i
  · refine ⟨j, ?_⟩
    unfold Joins at *
    rw [List.getElem?_eraseIdx, if_pos c]
    exact h
  · refine ⟨j - 1, ?_⟩
    unfold Joins at *
    rw [List.getElem?_eraseIdx, if_neg (by omega), show j - 1 + 1 = j by omega]
    exact h
theorem Roads.erase (R : Roads n rs) (i : Nat) : Roads n (rs.eraseIdx i) := by
  have m : ∀ r ∈ rs.eraseIdx i, r ∈ rs := fun r h => List.mem_of_mem_eraseIdx h
  exact ⟨fun r h => R.lo r (m r h), fun r h => R.hi r (m r h), fun r h => R.ne r (m r h), fun r h => R.ps r (m r h)⟩
/-- a connected country has roads enough -/
theorem Conn.count (C : Conn n rs) (R : Roads n rs) (h0 : 0 < n) : n ≤ rs.length + 1 := by
  have hs : InV n 0 := InV.zero h0
  have T := (Tab.one rs 0).relaxN n
  obtain ⟨_, _, _, _, S, _⟩ := T.span (relax_all R C hs) hs (T.inv R hs)
  exact S.count_le
theorem Tree.apart (W : Tree n rs) {i : Nat} {p x l : Int} (hj : Joins rs i p x l) : ¬ Clo rs i p x := by
  intro h
  have C : Conn n (rs.eraseIdx i) := fun K k0 hc => by
    have hc' : ∀ j a b m, j ≠ i → K a → Joins rs j a b m → K b := fun j a b m nj ka jn => by
      obtain ⟨k, jk⟩ := joins_erase jn nj
      exact hc k a b m ka jk
    have clo : ∀ a b, Clo rs i a b → K a → K b := fun a b g ka => by
      induction g with
      | refl => exact ka
      | step _ nj jn ih => exact hc' _ _ _ _ nj ih jn
    refine W.conn K k0 fun j a b m ka jn => ?_
    by_cases e : j = i
    · subst e
      rcases hj.ends jn with ⟨rfl, rfl⟩ | ⟨rfl, rfl⟩
      · exact clo _ _ h ka
      · exact clo _ _ h.symm ka
    · exact hc' j a b m e ka jn
  have := C.count (W.roads.erase i) (by have := W.count; omega)
  rw [List.length_eraseIdx, if_pos hj.lt] at this
  have := W.count
  have := hj.lt
  omega
end
/-! ### a side, grown road by road -/
def grow1 (i : Nat) (f : List Int) (k : Nat) (r : Road) : List Int :=
  if k ≠ i ∧ (decide (r.1 ∈ f) ≠ decide (r.2.1 ∈ f)) then f ++ [if r.1 ∈ f then r.2.1 else r.1] else f
def growTo (rs : List Road) (i : Nat) : Nat → List Int → List Int
  | 0, f => f
  | k + 1, f => match rs[k]? with
    | some r => grow1 i (growTo rs i k f) k r
    | none => growTo rs i k f
def growN (rs : List Road) (i : Nat) : Nat → List Int → List Int
  | 0, f => f
  | m + 1, f => growTo rs i rs.length (growN rs i m f)
theorem growTo_succ {rs : List Road} {i k : Nat} {r : Road} (h : rs[k]? = some r) (f : List Int) : growTo rs i (k + 1) f = grow1 i (growTo rs i k f) k r := by
  show (match rs[k]? with | some r => grow1 i (growTo rs i k f) k r | none => growTo rs i k f) = _
  rw [h]
structure GI (rs : List Road) (i : Nat) (s : Int) (f : List Int) : Prop where
  st : s ∈ f
  nd : f.Nodup
  cl : ∀ x ∈ f, Clo rs i s x
theorem GI.begin (rs : List Road) (i : Nat) (s : Int) : GI rs i s [s] := ⟨by simp, by simp, fun x h => by simp at h; subst h; exact .refl⟩
theorem GI.one {rs : List Road} {i k : Nat} {s : Int} {f : List Int} {r : Road} (g : GI rs i s f) (h : rs[k]? = some r) : GI rs i s (grow1 i f k r) := by
  unfold grow1
  split
  · rename_i c
    obtain ⟨a, b, l⟩ := r
    by_cases ha : a ∈ f
    · have hb : b ∉ f := fun hb => by simp [ha, hb] at c
      rw [if_pos ha]
      exact ⟨List.mem_append_left _ g.st, nd_snoc g.nd hb, fun x hx => by
        rcases List.mem_append.mp hx with hx | hx
        · exact g.cl x hx
        · have : x = b := by simpa using hx
          subst this
          exact (g.cl a ha).step c.1 (.inl h)⟩
    · have hb : b ∈ f := Classical.byContradiction fun hb => by simp [ha, hb] at c
      rw [if_neg ha]
      exact ⟨List.mem_append_left _ g.st, nd_snoc g.nd ha, fun x hx => by
        rcases List.mem_append.mp hx with hx | hx
        · exact g.cl x hx
        · have : x = a := by simpa using hx
          subst this
          exact (g.cl b hb).step c.1 (.inr h)⟩
  · exact g
theorem GI.to {rs : List Road} {i : Nat} {s : Int} {f : List Int} (g : GI rs i s f) : ∀ k, GI rs i s (growTo rs i k f)
  | 0 => g
  | k + 1 => by
    cases h : rs[k]? with
    | none =>
      have : growTo rs i (k + 1) f = growTo rs i k f := by
        show (match rs[k]? with | some r => grow1 i (growTo rs i k f) k r | none => growTo rs i k f) = _
        rw [h]
      rw [this]; exact g.to k
    | some r => rw [growTo_succ h]; exact (g.to k).one h
theorem GI.N {rs : List Road} {i : Nat} {s : Int} {f : List Int} (g : GI rs i s f) : ∀ m, GI rs i s (growN rs i m f)
  | 0 => g
  | m + 1 => (g.N m).to _
theorem grow1_more (i : Nat) (f : List Int) (k : Nat) (r : Road) : ∃ more, grow1 i f k r = f ++ more := by
  unfold grow1
  split
  · exact ⟨_, rfl⟩
  · exact ⟨[], by simp⟩
theorem growTo_more (rs : List Road) (i : Nat) (f : List Int) (k d : Nat) : ∃ more, growTo rs i (k + d) f = growTo rs i k f ++ more := by
  induction d with
  | zero => exact ⟨[], by simp⟩
  | succ d ih =>
    obtain ⟨m, e⟩ := ih
    cases h : rs[k + d]? with
    | none =>
      refine ⟨m, ?_⟩
      show (match rs[k + d]? with | some r => grow1 i (growTo rs i (k + d) f) (k + d) r | none => growTo rs i (k + d) f) = _
      rw [h]; exact e
    | some r =>
      obtain ⟨m2, e2⟩ := grow1_more i (growTo rs i (k + d) f) (k + d) r
      refine ⟨m ++ m2, ?_⟩
      rw [show k + (d + 1) = k + d + 1 by omega, growTo_succ h, e2, e, List.append_assoc]
def ClosedF (rs : List Road) (i : Nat) (f : List Int) : Prop := ∀ j x y l, j ≠ i → Joins rs j x y l → x ∈ f → y ∈ f
theorem closed_of_len {rs : List Road} {i : Nat} {f : List Int} (h : (growTo rs i rs.length f).length = f.length) : ClosedF rs i f := by
  have st : ∀ k, k ≤ rs.length → growTo rs i k f = f := fun k hk => by
    obtain ⟨m, e⟩ := growTo_more rs i f 0 k
    obtain ⟨m2, e2⟩ := growTo_more rs i f k (rs.length - k)
    rw [show k + (rs.length - k) = rs.length by omega] at e2
    rw [Nat.zero_add] at e
    have e0 : growTo rs i 0 f = f := rfl
    rw [e0] at e
    rw [e2, e, List.length_append, List.length_append] at h
    have : m = [] := List.eq_nil_of_length_eq_zero (by omega)
    rw [e, this, List.append_nil]
  intro j x y l nj jn hx
  have hlt := jn.lt
  obtain ⟨r, hr⟩ : ∃ r, rs[j]? = some r := ⟨rs[j], List.getElem?_eq_getElem hlt⟩
  have e := growTo_succ (i := i) hr f
  rw [st j (by omega), st (j + 1) (by omega)] at e
  unfold grow1 at e
  split at e
  · exfalso
    have := congrArg List.length e
    rw [List.length_append] at this
    simp at this
  · rename_i c
    refine Classical.byContradiction fun hy => c ⟨nj, ?_⟩
    rcases jn with q | q
    · rw [hr] at q; cases q
      simp [hx, hy]
    · rw [hr] at q; cases q
      simp [hx, hy]
theorem growTo_closed {rs : List Road} {i : Nat} {f : List Int} (c : ClosedF rs i f) : ∀ k, growTo rs i k f = f
  | 0 => rfl
  | k + 1 => by
    have ih := growTo_closed c k
    cases h : rs[k]? with
    | none =>
      show (match rs[k]? with | some r => grow1 i (growTo rs i k f) k r | none => growTo rs i k f) = _
      rw [h]; exact ih
    | some r =>
      rw [growTo_succ h, ih]
      unfold grow1
      rw [if_neg]
      rintro ⟨ni, ne⟩
      apply ne
      obtain ⟨a, b, l⟩ := r
      have h1 : a ∈ f → b ∈ f := fun z => c k a b l ni (.inl h) z
      have h2 : b ∈ f → a ∈ f := fun z => c k b a l ni (.inr h) z
      by_cases ha : a ∈ f
      · simp [ha, h1 ha]
      · have hb : b ∉ f := fun z => ha (h2 z)
        simp [ha, hb]
theorem grown {n : Nat} {rs : List Road} {i : Nat} {s : Int} (R : Roads n rs) (hs : InV n s) : ClosedF rs i (growN rs i n [s]) := by
  have key : ∀ m, ClosedF rs i (growN rs i m [s]) ∨ m + 1 ≤ (growN rs i m [s]).length := by
    intro m
    induction m with
    | zero => exact .inr (by simp [growN])
    | succ m ih =>
      rcases ih with c | h
      · left
        show ClosedF rs i (growTo rs i rs.length (growN rs i m [s]))
        rw [growTo_closed c]; exact c
      · obtain ⟨mo, e⟩ := growTo_more rs i (growN rs i m [s]) 0 rs.length
        rw [Nat.zero_add] at e
        have e0 : growTo rs i 0 (growN rs i m [s]) = growN rs i m [s] := rfl
        rw [e0] at e
        by_cases q : mo = []
        · left
          have c := closed_of_len (rs := rs) (i := i) (f := growN rs i m [s]) (by rw [e, q, List.append_nil])
          show ClosedF rs i (growTo rs i rs.length (growN rs i m [s]))
          rw [growTo_closed c]; exact c
        · right
          show m + 1 + 1 ≤ (growTo rs i rs.length (growN rs i m [s])).length
          rw [e, List.length_append]
          have := List.length_pos_iff.mpr q
          omega
  rcases key n with c | h
  · exact c
  · exfalso
    have g := (GI.begin rs i s).N n
    have := nodup_le g.nd (m := vil n) fun x hx => mem_vil.mpr ((g.cl x hx).inV R hs)
    rw [vil_length] at this
    omega
end WR
namespace WR
/-! ### sums over the villages -/
/-! ### walks and medians -/
/-- the walks to x -/
def walksM (n : Nat) (rs : List Road) (pp : Int → Int) (x : Int) : Int := ((vil n).map fun y => pp y * far n rs x y).sum
def totalM (n : Nat) (pp : Int → Int) : Int := ((vil n).map pp).sum
/-- no road at u has more than half beyond -/
def EvenM (n : Nat) (rs : List Road) (pp : Int → Int) (u : Int) : Prop := ∀ i v l, Joins rs i u v l → 2 * ((growN rs i n [v]).map pp).sum ≤ totalM n pp
section
variable {n : Nat} {rs : List Road} {pp : Int → Int}
end
/-! ### the first two that are farthest apart -/
def Before (x y a b : Int) : Prop := x < a ∨ (x = a ∧ y < b)
/-- of the pairs x < y ahead of (i, j): the first greatest -/
def Best (F : Int → Int → Int) (n : Nat) (i j : Int) (a b d : Int) : Prop :=
  (a = 0 ∧ b = 0 ∧ d = 0 ∧ ∀ (x y : Int), 0 ≤ x → x < y → y < n → ¬ Before x y i j) ∨
  (0 ≤ a ∧ a < b ∧ b < n ∧ Before a b i j ∧ d = F a b ∧ 0 < d ∧ ∀ (x y : Int), 0 ≤ x → x < y → y < n → Before x y i j → F x y ≤ d ∧ (Before x y a b → F x y < d))
theorem Best.step {F : Int → Int → Int} {n : Nat} {i j a b d : Int} (B : Best F n i j a b d) (pos : ∀ (x y : Int), 0 ≤ x → x < y → y < n → 0 < F x y) (i0 : 0 ≤ i) (ij : i < j) (jn : j < n) :
    (F i j > d → Best F n i (j + 1) i j (F i j)) ∧ (¬ F i j > d → Best F n i (j + 1) a b d) := by
  have nx : ∀ (x y : Int), Before x y i (j + 1) → Before x y i j ∨ (x = i ∧ y = j) := fun x y h => by unfold Before at *; omega
  constructor
  · intro h
    refine .inr ⟨i0, ij, jn, by unfold Before; omega, rfl, pos i j i0 ij jn, fun x y h1 h2 h3 h4 => ?_⟩
    rcases nx x y h4 with q | ⟨rfl, rfl⟩
    · rcases B with ⟨_, _, _, no⟩ | ⟨_, _, _, _, _, _, al⟩
      · exact absurd q (no x y h1 h2 h3)
      · have := (al x y h1 h2 h3 q).1
        exact ⟨by omega, fun _ => by omega⟩
    · exact ⟨Int.le_refl _, fun z => by unfold Before at z; omega⟩
  · intro h
    rcases B with ⟨rfl, rfl, rfl, no⟩ | ⟨a0, ab, bn, bf, rfl, dp, al⟩
    · exact absurd (pos i j i0 ij jn) (by omega)
    · refine .inr ⟨a0, ab, bn, by unfold Before at *; omega, rfl, dp, fun x y h1 h2 h3 h4 => ?_⟩
      rcases nx x y h4 with q | ⟨rfl, rfl⟩
      · exact al x y h1 h2 h3 q
      · exact ⟨by omega, fun z => by unfold Before at *; omega⟩
/-- the answer: all pairs are seen -/
def Top (F : Int → Int → Int) (n : Nat) (a b d : Int) : Prop :=
  (n = 1 ∧ a = 0 ∧ b = 0 ∧ d = 0) ∨ (0 ≤ a ∧ a < b ∧ b < n ∧ d = F a b ∧ 0 < d ∧ ∀ (x y : Int), 0 ≤ x → x < y → y < n → F x y ≤ d ∧ (Before x y a b → F x y < d))
end WR
namespace WR
/-! ### rising lists -/
/-- the villages at which P holds, rising -/
def those (P : Nat → Bool) (n : Nat) : List Int := ((List.range n).filter P).map fun (k : Nat) => (k : Int)
/-! ### what is reached without a road -/
/-! ### a road moved -/
section
variable {n : Nat} {rs : List Road} {i : Nat} {a b l x y : Int}
end
/-! ### two trees joined -/
def shiftR (n : Nat) (r : Road) : Road := ((n : Int) + r.1, (n : Int) + r.2.1, r.2.2)
def joinR (n : Nat) (rs : List Road) (v l : Int) (rs2 : List Road) : List Road := rs ++ [(v, (n : Int), l)] ++ rs2.map (shiftR n)
end WR
namespace WR
/-! ### who lies below whom -/
/-- one comes up from it to c -/
inductive Bel (s : Int) (par : Int → Int) (c : Int) : Int → Prop where
  | refl : Bel s par c c
  | step {x : Int} : x ≠ s → Bel s par c (par x) → Bel s par c x
section
variable {n : Nat} {rs : List Road} {s : Int} {par : Int → Int} {idx : Int → Nat} {D : Int → Int} {rk : Int → Nat}
theorem Bel.trans {a b c : Int} (h : Bel s par a b) (g : Bel s par b c) : Bel s par a c := by
  induction g with
  | refl => exact h
  | step nx _ ih => exact .step nx ih
end
/-! ### how often a road is gone -/
/-- whether the road at i joins the two -/
def isRoad (rs : List Road) (i : Nat) (u v : Int) : Bool := match rs[i]? with
  | some r => (decide (r.1 = u) && decide (r.2.1 = v)) || (decide (r.1 = v) && decide (r.2.1 = u))
  | none => false
/-- how often the road at i is gone on a walk from u -/
def cnt (rs : List Road) (i : Nat) : Int → List Int → Nat
  | _, [] => 0
  | u, v :: r => (if isRoad rs i u v = true then 1 else 0) + cnt rs i v r
/-- where a walk from u ends -/
def lastW : Int → List Int → Int
  | u, [] => u
  | _, v :: r => lastW v r
/-- a walk from neighbour to neighbour -/
def Walk (rs : List Road) : Int → List Int → Prop
  | _, [] => True
  | u, v :: r => (∃ i l, Joins rs i u v l) ∧ Walk rs v r
end WR
namespace WR
open Classical
/-! ### there and back -/
def backM (rs : List Road) : Nat → Int → List Int → List Int
  | 0, v, _ => [v]
  | f + 1, v, cl => v :: (stepsM rs v).flatMap fun p => if p.1 ∈ cl then [] else backM rs f p.1 [v] ++ [v]
/-- so deep it goes -/
def Fits (rs : List Road) : Nat → Int → List Int → Prop
  | 0, _, _ => False
  | f + 1, v, cl => ∀ p ∈ stepsM rs v, p.1 ∉ cl → Fits rs f p.1 [v]
section
variable {n : Nat} {rs : List Road} {s : Int} {par : Int → Int} {idx : Int → Nat} {D : Int → Int} {rk : Int → Nat}
/-- a tour of all below t -/
def TourC (n : Nat) (rs : List Road) (s : Int) (par : Int → Int) (idx : Int → Nat) (f : Nat) (t : Int) : Prop := ∃ B, backM rs f t [par t] = t :: B ∧ lastW t B = t ∧ Walk rs t B ∧
  (∀ x, InV n x → x ≠ s → cnt rs (idx x) t B = if Bel s par t x ∧ x ≠ t then 2 else 0) ∧ ∀ y, Bel s par t y → InV n y → y ∈ t :: B
/-- a neighbour that is not above is just below -/
theorem Span.below (S : Span n rs s par idx D rk) (W : Tree n rs) {v t l : Int} (hm : (t, l) ∈ stepsM rs v) : InV n v ∧ InV n t ∧ ((t ≠ s ∧ par t = v) ∨ (v ≠ s ∧ par v = t)) := by
  obtain ⟨i, j⟩ := mem_stepsM.mp hm
  obtain ⟨hv, ht, _⟩ := W.roads.joins j
  obtain ⟨z, hz, nz, e⟩ := S.surj W.count j.lt
  obtain ⟨m, jz, _⟩ := S.road z hz nz
  rw [e] at jz
  refine ⟨hv, ht, ?_⟩
  rcases j.ends jz with ⟨a, b⟩ | ⟨a, b⟩
  · subst b; exact .inl ⟨nz, a⟩
  · subst b; exact .inr ⟨nz, a⟩
end
end WR
namespace WR
open Classical
section
variable {n : Nat} {rs : List Road} {s o : Int} {par : Int → Int} {idx : Int → Nat} {D : Int → Int} {rk : Int → Nat}
/-- the errand as far as the m-th village of the way -/
def errM (rs : List Road) (f : Nat) (ws : List Int) (m : Nat) : List Int := (ws.take m).flatMap fun v => backM rs f v ws
end
end WR
namespace WR
/-! ### how often a row of villages goes each road, and how long it is -/
def cntTo (rs : List Road) (ws : List Int) (i k : Nat) : Nat := ((List.range k).filter fun j => isRoad rs i (ws.getD j 0) (ws.getD (j + 1) 0)).length
def WalkAt (rs : List Road) (ws : List Int) : Prop := ∀ j, j + 1 < ws.length → ∃ i l, Joins rs i (ws.getD j 0) (ws.getD (j + 1) 0) l
/-- up to the k-th step -/
def WalkTo (rs : List Road) (ws : List Int) (k : Nat) : Prop := ∀ j, j < k → ∃ i l, Joins rs i (ws.getD j 0) (ws.getD (j + 1) 0) l
def goneM (rs : List Road) (ws : List Int) (k : Nat) : List Int := (List.range rs.length).map fun (i : Nat) => (cntTo rs ws i k : Int)
section
variable {n : Nat} {rs : List Road} {ws : List Int} {k j : Nat} {l : Int}
def longTo (rs : List Road) (ws : List Int) (k : Nat) : Int := ((List.range rs.length).map fun (i : Nat) => (cntTo rs ws i k : Int) * (rs.getD i (0, 0, 0)).2.2).sum
end
end WR
namespace WR
/-! ### wells within a walk: from the outside inwards -/
section
variable {n : Nat} {rs : List Road} {par : Int → Int} {idx : Int → Nat} {rk : Int → Nat}
/-- a lies on the way from 0 to c -/
def Anc (n : Nat) (rs : List Road) (a c : Int) : Prop := far n rs 0 c = far n rs 0 a + far n rs a c
/-- the innermost village within the walk -/
structure Inner (n : Nat) (rs : List Road) (w c a : Int) : Prop where
  iv : InV n a
  near : far n rs c a ≤ w
  least : ∀ u, InV n u → far n rs c u ≤ w → far n rs 0 a ≤ far n rs 0 u
/-! the answer -/
/-- callers of whom no two share a village; their innermost ones, within the walk of all that were asked -/
structure Dug (n : Nat) (rs : List Road) (w : Int) (pre wells callers : List Int) : Prop where
  len : wells.length = callers.length
  iv : ∀ x ∈ wells, InV n x
  cv : ∀ x ∈ callers, InV n x ∧ x ∈ pre
  at_ : ∀ (i : Nat) c, callers[i]? = some c → ∃ a, wells[i]? = some a ∧ Inner n rs w c a
  cover : ∀ v ∈ pre, ∃ x ∈ wells, far n rs v x ≤ w
  apart : callers.Pairwise fun c e => ∀ x, InV n x → ¬ (far n rs c x ≤ w ∧ far n rs e x ≤ w)
/-! no more callers than any wells that are enough -/
open Classical in
theorem Dug.le (W : Tree n rs) {w : Int} {pre wells callers other : List Int} (D : Dug n rs w pre wells callers) (h : ∀ v, InV n v → ∃ x ∈ other, InV n x ∧ far n rs v x ≤ w) : wells.length ≤ other.length := by
  rw [D.len]
  have : ∃ f : Int → Int, ∀ c ∈ callers, f c ∈ other ∧ InV n (f c) ∧ far n rs c (f c) ≤ w := by
    refine ⟨fun c => if q : ∃ x ∈ other, InV n x ∧ far n rs c x ≤ w then Classical.choose q else 0, fun c hc => ?_⟩
    have q := h c (D.cv c hc).1
    dsimp only
    rw [dif_pos q]
    exact Classical.choose_spec q
  obtain ⟨f, hf⟩ := this
  have nd : (callers.map f).Nodup := by
    rw [List.Nodup, List.pairwise_map]
    refine D.apart.imp_of_mem fun {c e} hc he z q => ?_
    exact z (f c) (hf c hc).2.1 ⟨(hf c hc).2.2, by rw [q]; exact (hf e he).2.2⟩
  have := nodup_le nd (m := other) fun x hx => by
    obtain ⟨c, hc, rfl⟩ := List.mem_map.mp hx
    exact (hf c hc).1
  rw [List.length_map] at this
  exact this
/-- so many wells are enough -/
def Enough (n : Nat) (rs : List Road) (w : Int) (many : Int) : Prop := ∃ pre wells callers, (∀ v, InV n v → v ∈ pre) ∧ Dug n rs w pre wells callers ∧ (wells.length : Int) ≤ many
theorem Dug.one (W : Tree n rs) {w : Int} {pre wells callers : List Int} (D : Dug n rs w pre wells callers) (h0 : InV n 0) (h : ∀ v, InV n v → far n rs v 0 ≤ w) : wells.length ≤ 1 := D.le W (other := [0]) fun v hv => ⟨0, by simp, h0, h v hv⟩
end
end WR
namespace WR
/-- a way between two villages is so long -/
def IsDist (n : Nat) (rs : List Road) (d : Int) : Prop := ∃ u v, InV n u ∧ InV n v ∧ d = far n rs u v
/-- each pair once -/
def pairsM (n : Nat) (rs : List Road) : List Int := (List.range n).flatMap fun (i : Nat) => (List.range (i + 1)).map fun (j : Nat) => far n rs (i : Int) (j : Int)
/-! the keys of the law's dict -/
def addI (ks : List Int) (x : Int) : List Int := if x ∈ ks then ks else ks ++ [x]
end WR
namespace WR
/-- each road a step longer, up to the most -/
def longL (l : Int) : Int := if 1000000 < l + 1 then 1000000 else l + 1
def longR (rs : List Road) : List Road := rs.map fun r => (r.1, r.2.1, longL r.2.2)
section
variable {n : Nat} {rs : List Road} {w : Int} {pre wells callers : List Int}
theorem rises {l : List Int} (h : l.Pairwise (· ≤ ·)) (nd : l.Nodup) : l.Pairwise (· < ·) := by
  refine (h.and nd).imp fun {a b} ⟨h1, h2⟩ => ?_
  have : a ≠ b := h2
  omega
end
end WR
namespace WR
/-! ### pairs and posts: roads from the outside inwards -/
/-- v is an end of the road at k -/
def EndOf (rs : List Road) (k : Nat) (v : Int) : Prop := ∃ a b l, rs[k]? = some (a, b, l) ∧ (v = a ∨ v = b)
def Meet (rs : List Road) (k j : Nat) : Prop := ∃ v, EndOf rs k v ∧ EndOf rs j v
/-- how far its outer end lies from 0 -/
def outM (n : Nat) (rs : List Road) (r : Road) : Int := if far n rs 0 r.2.1 > far n rs 0 r.1 then far n rs 0 r.2.1 else far n rs 0 r.1
def inM (n : Nat) (rs : List Road) (r : Road) : Int := if far n rs 0 r.1 < far n rs 0 r.2.1 then r.1 else r.2.1
section
variable {n : Nat} {rs : List Road}
/-- a road's outer end, and its inner one -/
theorem Tree.ends_of (W : Tree n rs) {par : Int → Int} {idx : Int → Nat} {rk : Int → Nat} (S : Span n rs 0 par idx (far n rs 0) rk) {k : Nat} {r : Road} (h : rs[k]? = some r) :
    ∃ x, InV n x ∧ x ≠ 0 ∧ idx x = k ∧ inM n rs r = par x ∧ outM n rs r = far n rs 0 x ∧ far n rs 0 (par x) < far n rs 0 x ∧ ∀ v, EndOf rs k v ↔ v = x ∨ v = par x := by
  have hk : k < rs.length := (List.getElem?_eq_some_iff.mp h).1
  obtain ⟨x, hx, nx, e⟩ := S.surj W.count hk
  obtain ⟨l, j, d⟩ := S.road x hx nx
  have lp := (W.roads.joins j).2.2.2.1
  rw [e] at j
  have lt : far n rs 0 (par x) < far n rs 0 x := by omega
  obtain ⟨a, b, m⟩ := r
  refine ⟨x, hx, nx, e, ?_⟩
  rcases j with j | j
  · rw [h] at j
    simp only [Option.some.injEq, Prod.mk.injEq] at j
    obtain ⟨rfl, rfl, rfl⟩ := j
    refine ⟨?_, ?_, lt, fun v => ⟨fun ⟨a', b', l', e', o⟩ => ?_, fun o => ⟨_, _, _, h, o.symm⟩⟩⟩
    · unfold inM; exact if_pos lt
    · unfold outM; exact if_pos lt
    · rw [h] at e'
      simp only [Option.some.injEq, Prod.mk.injEq] at e'
      obtain ⟨rfl, rfl, rfl⟩ := e'
      exact o.symm
  · rw [h] at j
    simp only [Option.some.injEq, Prod.mk.injEq] at j
    obtain ⟨rfl, rfl, rfl⟩ := j
    refine ⟨?_, ?_, lt, fun v => ⟨fun ⟨a', b', l', e', o⟩ => ?_, fun o => ⟨_, _, _, h, o⟩⟩⟩
    · unfold inM; exact if_neg (fun z => by have : far n rs 0 a < far n rs 0 (par a) := z; omega)
    · unfold outM; exact if_neg (fun z => by have : far n rs 0 (par a) > far n rs 0 a := z; omega)
    · rw [h] at e'
      simp only [Option.some.injEq, Prod.mk.injEq] at e'
      obtain ⟨rfl, rfl, rfl⟩ := e'
      exact o
/-- a road that meets an outer one has its inner end -/
theorem Tree.meet_in (W : Tree n rs) {k j : Nat} {r s : Road} (hr : rs[k]? = some r) (hs : rs[j]? = some s) (m : Meet rs k j) (ne : k ≠ j) (h : outM n rs s ≤ outM n rs r) : EndOf rs j (inM n rs r) := by
  have n1 : 0 < n := by have := W.count; omega
  obtain ⟨par, idx, rk, S⟩ := W.span (s := 0) ⟨by omega, by omega⟩
  obtain ⟨x, hx, nx, ex, e1, e2, e3, e4⟩ := W.ends_of S hr
  obtain ⟨y, hy, ny, ey, f1, f2, f3, f4⟩ := W.ends_of S hs
  obtain ⟨v, v1, v2⟩ := m
  rw [e1, f4]
  rcases (e4 v).mp v1 with rfl | rfl
  · rcases (f4 v).mp v2 with z | z
    · exact absurd (ex.symm.trans ((congrArg idx z).trans ey)) ne
    · rw [← z] at f3; omega
  · exact (f4 _).mp v2
/-- what is paired of the roads that were asked -/
structure Paird (n : Nat) (rs : List Road) (pre pairs : List Nat) : Prop where
  pv : ∀ k ∈ pairs, k < rs.length ∧ k ∈ pre
  apart : pairs.Pairwise fun k j => ¬ Meet rs k j
  cover : ∀ k ∈ pre, ∃ j ∈ pairs, ∃ s, rs[j]? = some s ∧ EndOf rs k (inM n rs s)
theorem Paird.nil : Paird n rs [] [] := ⟨by simp, .nil, by simp⟩
theorem Paird.add {pre pairs : List Nat} {k : Nat} {r : Road} (D : Paird n rs pre pairs) (hk : rs[k]? = some r) (h : ∀ j ∈ pairs, ¬ Meet rs j k) : Paird n rs (pre ++ [k]) (pairs ++ [k]) := by
  have hl : k < rs.length := (List.getElem?_eq_some_iff.mp hk).1
  refine ⟨fun j hj => ?_, ?_, fun j hj => ?_⟩
  · rcases List.mem_append.mp hj with hj | hj
    · exact ⟨(D.pv j hj).1, List.mem_append_left _ (D.pv j hj).2⟩
    · rw [List.mem_singleton.mp hj]; exact ⟨hl, by simp⟩
  · rw [List.pairwise_append]
    exact ⟨D.apart, List.pairwise_singleton _ _, fun j hj i hi => by rw [List.mem_singleton.mp hi]; exact h j hj⟩
  · rcases List.mem_append.mp hj with hj | hj
    · obtain ⟨i, h1, h2⟩ := D.cover j hj
      exact ⟨i, List.mem_append_left _ h1, h2⟩
    · rw [List.mem_singleton.mp hj]
      refine ⟨k, by simp, r, hk, ?_⟩
      obtain ⟨a, b, l⟩ := r
      refine ⟨a, b, l, hk, ?_⟩
      unfold inM
      split
      · exact .inl rfl
      · exact .inr rfl
theorem Paird.skip (W : Tree n rs) {pre pairs : List Nat} {k : Nat} {r : Road} (D : Paird n rs pre pairs) (hk : rs[k]? = some r) (nk : k ∉ pre) (h : ∃ j ∈ pairs, Meet rs j k) (ho : ∀ j s, j ∈ pre → rs[j]? = some s → outM n rs r ≤ outM n rs s) : Paird n rs (pre ++ [k]) pairs := by
  refine ⟨fun j hj => ⟨(D.pv j hj).1, List.mem_append_left _ (D.pv j hj).2⟩, D.apart, fun j hj => ?_⟩
  rcases List.mem_append.mp hj with hj | hj
  · exact D.cover j hj
  · rw [List.mem_singleton.mp hj]
    obtain ⟨i, hi, m⟩ := h
    have pi := D.pv i hi
    refine ⟨i, hi, _, List.getElem?_eq_getElem pi.1, W.meet_in (List.getElem?_eq_getElem pi.1) hk m (fun z => nk (z ▸ pi.2)) (ho i _ pi.2 (List.getElem?_eq_getElem pi.1))⟩
end
/-! as many in the set as in the list: none twice -/
theorem dup_short : ∀ {ns : List Int}, ¬ ns.Nodup → ∃ ms : List Int, ms.length < ns.length ∧ ∀ x ∈ ns, x ∈ ms
  | [], h => absurd List.nodup_nil h
  | y :: r, h => by
    by_cases c : y ∈ r
    · exact ⟨r, by simp, fun x hx => by rcases List.mem_cons.mp hx with rfl | hx; exact c; exact hx⟩
    · have : ¬ r.Nodup := fun z => h (List.nodup_cons.mpr ⟨c, z⟩)
      obtain ⟨ms, h1, h2⟩ := dup_short this
      exact ⟨y :: ms, by simp; omega, fun x hx => by rcases List.mem_cons.mp hx with rfl | hx; exact List.mem_cons_self ..; exact List.mem_cons_of_mem _ (h2 x hx)⟩
theorem set_len {ks ns : List Int} (nd : ks.Nodup) (h : ∀ x, x ∈ ks ↔ x ∈ ns) : ks.length ≤ ns.length ∧ (ks.length = ns.length ↔ ns.Nodup) := by
  have le := nodup_le nd (m := ns) fun x hx => (h x).mp hx
  refine ⟨le, fun e => Classical.byContradiction fun z => ?_, fun z => ?_⟩
  · obtain ⟨ms, h1, h2⟩ := dup_short z
    have := nodup_le nd (m := ms) fun x hx => h2 x ((h x).mp hx)
    omega
  · have := nodup_le z (m := ks) fun x hx => (h x).mpr hx
    omega
/-- the ends of the roads at the places ks -/
def endsM (rs : List Road) (ks : List Int) : List Int := (ks.map fun k => (rs.getD k.toNat (0, 0, 0)).1) ++ ks.map fun k => (rs.getD k.toNat (0, 0, 0)).2.1
def endsL (rs : List Road) (ks : List Int) : List Int := ks.flatMap fun k => [(rs.getD k.toNat (0, 0, 0)).1, (rs.getD k.toNat (0, 0, 0)).2.1]
theorem ends_perm (rs : List Road) : ∀ ks : List Int, (endsL rs ks).Perm (endsM rs ks)
  | [] => .nil
  | k :: r => by
    have ih := ends_perm rs r
    unfold endsL endsM at *
    rw [List.flatMap_cons, List.map_cons, List.map_cons, List.cons_append]
    refine List.Perm.cons _ ?_
    exact (List.Perm.cons _ ih).trans List.perm_middle.symm
theorem end_iff {rs : List Road} {k : Int} (h : 0 ≤ k ∧ k < rs.length) {v : Int} : EndOf rs k.toNat v ↔ v = (rs.getD k.toNat (0, 0, 0)).1 ∨ v = (rs.getD k.toNat (0, 0, 0)).2.1 := by
  have e : rs[k.toNat]? = some (rs.getD k.toNat (0, 0, 0)) := by
    rw [List.getD_eq_getElem?_getD, List.getElem?_eq_getElem (by omega)]; rfl
  generalize rs.getD k.toNat (0, 0, 0) = r at e ⊢
  obtain ⟨a, b, l⟩ := r
  constructor
  · rintro ⟨a', b', l', e', o⟩
    rw [e] at e'
    simp only [Option.some.injEq, Prod.mk.injEq] at e'
    obtain ⟨rfl, rfl, rfl⟩ := e'
    exact o
  · intro o
    exact ⟨a, b, l, e, o⟩
theorem mem_endsL {rs : List Road} {L : List Int} (h : ∀ k ∈ L, 0 ≤ k ∧ k < rs.length) {v : Int} : v ∈ endsL rs L ↔ ∃ k ∈ L, EndOf rs k.toNat v := by
  unfold endsL
  rw [List.mem_flatMap]
  constructor
  · rintro ⟨k, hk, hv⟩
    exact ⟨k, hk, (end_iff (h k hk)).mpr (by simpa using hv)⟩
  · rintro ⟨k, hk, hv⟩
    exact ⟨k, hk, by simpa using (end_iff (h k hk)).mp hv⟩
theorem Tree.ends_nodup {n : Nat} {rs : List Road} (W : Tree n rs) : ∀ L : List Int, (∀ k ∈ L, 0 ≤ k ∧ k < rs.length) → ((endsL rs L).Nodup ↔ L.Pairwise fun k j => ¬ Meet rs k.toNat j.toNat)
  | [], _ => by simp [endsL]
  | k :: r, h => by
    have hk := h k (List.mem_cons_self ..)
    have hr : ∀ j ∈ r, 0 ≤ j ∧ j < rs.length := fun j hj => h j (List.mem_cons_of_mem _ hj)
    have ih := W.ends_nodup r hr
    have ne : (rs.getD k.toNat (0, 0, 0)).1 ≠ (rs.getD k.toNat (0, 0, 0)).2.1 := by
      have e : rs[k.toNat]? = some (rs.getD k.toNat (0, 0, 0)) := by
        rw [List.getD_eq_getElem?_getD, List.getElem?_eq_getElem (by omega)]; rfl
      exact W.roads.ne _ (List.mem_of_getElem? e)
    have c : endsL rs (k :: r) = [(rs.getD k.toNat (0, 0, 0)).1, (rs.getD k.toNat (0, 0, 0)).2.1] ++ endsL rs r := rfl
    rw [c, List.nodup_append, List.pairwise_cons, ih]
    constructor
    · rintro ⟨_, h2, h3⟩
      refine ⟨fun j hj m => ?_, h2⟩
      obtain ⟨v, v1, v2⟩ := m
      exact h3 v (by simpa using (end_iff hk).mp v1) v ((mem_endsL hr).mpr ⟨j, hj, v2⟩) rfl
    · rintro ⟨h1, h2⟩
      refine ⟨by simpa using ne, h2, fun a ha b hb z => ?_⟩
      subst z
      obtain ⟨j, hj, e⟩ := (mem_endsL hr).mp hb
      exact h1 j hj ⟨a, (end_iff hk).mpr (by simpa using ha), e⟩
open Classical in
/-- what the document calls shown -/
noncomputable def postedM (rs : List Road) (ks ps : List Int) (many : Int) : Bool := decide (many = ks.length) && decide (many = ps.length) && decide (endsM rs ks).Nodup && decide (∀ r ∈ rs, r.1 ∈ ps ∨ r.2.1 ∈ ps)
end WR
namespace L2
open PySem PySem.Spec PyProof.Rows
/-! ### a comprehension -/
/-- the context of its block -/
abbrev cxComp (X : Cx) (N : List Str) (sc : Scope) (cl : List (Str × Addr)) (C : Addr) (s₀ : Shared) (H₀ : Hp) (ex : List Addr) (pn : List (Addr × Obj)) : Cx where
  prog := X.prog
  w := X.w
  K := X.K
  mg := X.mg
  base := X.base
  A := X.A
  N := N
  s₀ := s₀
  H₀ := H₀
  env := compEnvC sc cl C X.env
  outer := X.stack
  stack := X.stack
  ex := ex
  fn := fun _ => false
  calm := X.calm
  pn := pn
  xe := X.xe

section
variable {prog : Program} {w : World} {A : Around} {R : Result → Shared → Prop} {s : Shared}
theorem compLoop_go {elt target iter : Expr} {ifs : List Expr} {scope : Scope} {pos : Pos} {it acc : Value} {env : Env} (I : Nat → Shared → Prop)
    (turn : ∀ n s, I n s → wpAny (model prog w) A (pyNext it) (fun r s₁ => match r with
      | none => R (.ok .next) s₁
      | some v => wpAny (model prog w) A (letOwnedTupleGo target it v) (fun _ s₁' => wpAny (model prog w) A (assign target env v) (fun _ s₂ =>
          wpAny (model prog w) A (forIn ifs true fun c r => if r = true then do let ok ← isTrue c env (eval c env); pure (ForInStep.yield ok) else pure (ForInStep.yield r)) (fun ok s₃ =>
            if ok = true then wpAny (model prog w) A (eval elt env) (fun x s₄ =>
              wpAny (model prog w) A (call (.builtin "list.append") [acc, x]) (fun _ s₅ => ∃ m, m < n ∧ I m s₅) (fun _ _ => False) s₄) (fun _ _ => False) s₃
            else ∃ m, m < n ∧ I m s₃) (fun _ _ => False) s₂) (fun _ _ => False) s₁') (fun _ _ => False) s₁) (fun _ _ => False) s)
    (n : Nat) (h : I n s) :
    codeAny (model prog w) A (.compLoop (.ListComp elt [⟨target, iter, ifs, 0⟩] scope pos) 0 it acc env) R s := by
  refine codeAny_loop rfl I (fun n s hI => ?_) n h
  show wpAny _ A ((compTurn (.ListComp elt [⟨target, iter, ifs, 0⟩] scope pos) 0 it acc env).onRaise (fun x => do noteFrame x env; theTreesLotGoes x)) _ _ s
  refine wpAny_noted ?_
  rw [compTurn_list]
  refine wpAny_bind (wpAny_standAt (wpAny_bind (wpAny_mono (turn n s hI) (fun r s₁ h₁ => ?_) fun _ _ h' => False.elim h')))
  cases r with
  | none => exact wpAny_pure h₁
  | some v =>
    refine wpAny_bind (wpAny_mono h₁ (fun _ s₁' h₁' => ?_) fun _ _ h' => False.elim h')
    refine wpAny_bind (wpAny_mono h₁' (fun _ s₂ h₂ => wpAny_bind (wpAny_mono h₂ (fun ok s₃ h₃ => ?_) fun _ _ h' => False.elim h')) fun _ _ h' => False.elim h')
    cases ok with
    | false => exact wpAny_pure ⟨rfl, h₃⟩
    | true =>
      exact wpAny_bind (wpAny_bind (wpAny_mono h₃ (fun x s₄ h₄ => wpAny_bind (wpAny_mono h₄ (fun _ s₅ h₅ => wpAny_pure (wpAny_pure ⟨rfl, h₅⟩)) fun _ _ h' => False.elim h')) fun _ _ h' => False.elim h'))
end

/-- the tests of a comprehension: none, or one -/
def PIfs (X : Cx) (ifs : List Expr) (t : TT) : Prop :=
  ∀ (pins : List (Addr × Obj)) (s : Shared) (σ : St) (H : Hp) (Q : Bool → Hp → Prop), Inv X pins σ H s → t σ H Q →
    wpAny (model X.prog X.w) X.A (forIn ifs true fun c r => if r = true then do let ok ← isTrue c X.env (eval c X.env); pure (ForInStep.yield ok) else pure (ForInStep.yield r)) (TP X pins σ Q) X.xe s
def tNoIf : TT := fun _ H Q => Q true H
theorem pf_none {X : Cx} : PIfs X [] tNoIf := fun _ _ _ H _ I h => wpAny_tests_nil ⟨H, I, h⟩
/-- what the block must have: names and cells -/
structure CompOk (X : Cx) (N : List Str) (sc : Scope) (cl : List (Str × Addr)) (fr : List (Nat × Nat)) : Prop where
  clos : closureFor sc X.env = pure cl
  kind : sc.kind = .function
  nocell : ∀ x ∈ sc.names, x.2 ≠ .cell
  names : ∀ x ∈ sc.names, x.2 = .local → sc.names.lookup x.1 = some .local
  sub : ∀ x c, cl.lookup x = some c → X.env.cells.lookup x = some c
  has : ∀ x, ((relabel sc X.env).names.lookup x = some .cell ∨ (relabel sc X.env).names.lookup x = some .free) → ∃ c, cl.lookup x = some c
  /-- the names that it reads of the def: (place here, place there) -/
  frees : ∀ p ∈ fr, ∃ x, N[p.1]? = some x ∧ X.N[p.2]? = some x ∧ (X.env.scope.names.lookup x = some .cell ∨ X.env.scope.names.lookup x = some .free) ∧ ((relabel sc X.env).names.lookup x = some .cell ∨ (relabel sc X.env).names.lookup x = some .free)
/-- the values at the block's entry -/
def startC (n : Nat) (fr : List (Nat × Nat)) (σ : St) : St := (List.range n).map fun i => match fr.find? (fun p => p.1 == i) with | some p => (σ[p.2]?).join | none => none
/-- [elt for tg in iter if ..]: W the invariant by the turn, a measure, the block's names, the items so far and the heap -/
def tComp (n : Nat) (fr : List (Nat × Nat)) (wi : TI) (g : TG) (tf : TT) (te : TE) : TE := fun σ H Q => wi σ H fun J H1 => ∀ acc, H1 acc = none →
  ∃ W : Nat → Nat → St → List V → Hp → Prop, (∃ m, W 0 m (startC n fr σ) [] (upd H1 acc (.lst []))) ∧ ∀ i m τ ys H2, W i m τ ys H2 →
    H2 acc = some (.lst ys) ∧ ((J.stop i H2 ∧ Q (.ref acc) H2) ∨ (J.go i H2 ∧ ∀ x H3, J.yld i H2 x H3 → g x τ H3 fun τ4 H4 => tf τ4 H4 fun b H5 =>
      if b = true then te τ4 H5 fun v H6 => H6 acc = some (.lst ys) ∧ ys.length < sizeLine ∧ ∃ m', m' < m ∧ W (i + 1) m' τ4 (ys ++ [v]) (upd H6 acc (.lst (ys ++ [v])))
      else ∃ m', m' < m ∧ W (i + 1) m' τ4 ys H5))

section
variable {X : Cx} {N : List Str} {sc : Scope} {cl : List (Str × Addr)} {fr : List (Nat × Nat)} {pins : List (Addr × Obj)} {σ : St} {H : Hp} {s : Shared}
theorem comp_ok {fp : List Addr} (I : Inv X pins σ H s) (K : CompOk X N sc cl fr) (f : ∀ b ∈ fp, FpOk X pins H b) (ho : ∀ b ∈ fp, ∃ o, s.heap.get? b = some o) :
    (cxComp X N sc cl s.heap.objs.size s H fp (X.pn ++ pins)).Ok where
  mod := I.mod
  kind := K.kind
  glob := I.ok.glob
  blt := I.ok.blt
  above := Nat.le_refl _
  inj := fun x y c h1 h2 => I.ok.inj x y c (K.sub x c h1) (K.sub y c h2)
  has := fun x h => K.has x h
  cab := fun x c h => absurd h (by simp)
  hd := I.ok.hd
  frames := I.ok.frames
  stk := .inl rfl
  exf := fun b hb => ⟨fun z => by
      obtain ⟨o, ho⟩ := ho b hb
      have z : b = s.heap.objs.size := z
      exact absurd (Heap.lt_size ho) (by rw [z]; exact Nat.lt_irrefl _), fun x c h => (f b hb).2.2.2.2.1 x c (K.sub x c h)⟩
  bs := I.bs
  bsz := Nat.le_trans I.ok.bsz I.sz
  noex := fun b o e hb => by
    rcases (f b hb).2.2.2.1 with z | z
    · exact I.ok.noex b o e z
    · exact absurd (Nat.lt_of_lt_of_le (Heap.lt_size e) (Nat.le_trans I.ok.bsz z)) (Nat.lt_irrefl _)
  exfs := fun b hb z => by
    rcases List.mem_cons.mp (I.stkSub b z) with q | q
    · exact (f b hb).2.1 q
    · exact (f b hb).2.2.1 q
  funs := I.stack
  frf := I.stkFree

theorem startC_get {n i : Nat} {v : V} (h : (startC n fr σ)[i]? = some (some v)) : ∃ p ∈ fr, p.1 = i ∧ σ[p.2]? = some (some v) := by
  unfold startC at h
  rw [List.getElem?_map] at h
  cases q : (List.range n)[i]? with
  | none => rw [q] at h; cases h
  | some j =>
    rw [q] at h
    have hj : j = i := by
      obtain ⟨hlt, e⟩ := List.getElem?_eq_some_iff.mp q
      rw [List.getElem_range] at e
      exact e.symm
    subst hj
    simp only [Option.map_some, Option.some.injEq] at h
    cases r : fr.find? (fun p => p.1 == j) with
    | none => rw [r] at h; cases h
    | some p =>
      rw [r] at h
      have h : (σ[p.2]?).join = some v := h
      refine ⟨p, List.mem_of_find?_eq_some r, by simpa using List.find?_some r, ?_⟩
      cases t : σ[p.2]? with
      | none => rw [t] at h; cases h
      | some o =>
        rw [t] at h
        have h : o = some v := h
        rw [h]

theorem comp_start {fp : List Addr} {h' : Heap} {t' : Nat} {m : Str → Option Value} (I : Inv X pins σ H s) (K : CompOk X N sc cl fr) (f : ∀ b ∈ fp, FpOk X pins H b) (ho : ∀ b ∈ fp, ∃ o, s.heap.get? b = some o)
    (hn : h'.Ns s.heap.objs.size m) (hk : ∀ b o, s.heap.get? b = some o → h'.get? b = some o) :
    Inv (cxComp X N sc cl s.heap.objs.size s H fp (X.pn ++ pins)) [] (startC N.length fr σ) H { s with heap := h', toks := t' } := by
  refine ⟨comp_ok I K f ho, rfl, I.bare, Un.kept hk, ⟨m, hn, fun i x v e1 e2 e3 => ?_⟩, fun x c h => ?_, I.hok.fresh (Nat.le_refl _), fun x c h => I.freeC x c (K.sub x c h), fun p hp => ?_, I.hok.kept hk, by simp [startC]⟩
  · obtain ⟨p, hp, rfl, hv⟩ := startC_get e2
    obtain ⟨y, h1, h2, h3, h4⟩ := K.frees p hp
    have e1 : N[p.1]? = some x := e1
    rw [e1] at h1; cases h1
    obtain ⟨m0, hm0, hl⟩ := I.loc
    have vis : Vis X.env.scope x := by
      rcases h3 with z | z
      · exact .inr (.inl z)
      · exact .inr (.inr z)
    obtain ⟨u, ru, l⟩ := hl p.2 x v h2 hv vis
    refine ⟨u, ru, ?_⟩
    rcases l with ⟨z, _⟩ | ⟨_, c, hc, hcell⟩
    · exfalso
      have z : X.env.scope.names.lookup x = some .local := z
      rcases h3 with q | q <;> (rw [z] at q; cases q)
    · obtain ⟨c', hc'⟩ := K.has x h4
      have := K.sub x c' hc'
      rw [hc] at this; cases this
      obtain ⟨o, ho', hd⟩ := hcell
      exact .inr ⟨h4, c, hc', o, hk _ _ ho', hd⟩
  · obtain ⟨v, o, ho', hd⟩ := I.cell x c (K.sub x c h)
    exact ⟨v, o, hk _ _ ho', hd⟩
  · have hp : p ∈ X.pn ++ pins := by simpa using hp
    obtain ⟨e, n, ne, nf, d⟩ := I.pin p hp
    refine ⟨hk _ _ e, n, fun z => ?_, fun z => ?_, d⟩
    · have z : p.1 = s.heap.objs.size := z
      exact absurd (Heap.lt_size e) (by rw [z]; exact Nat.lt_irrefl _)
    · rcases List.mem_cons.mp (I.stkSub _ z) with q | q
      · exact ne q
      · exact nf q

/-- behind the block -/
theorem comp_back {fp : List Addr} {τ : St} {H' : Hp} {s' : Shared} {h' : Heap} (I : Inv X pins σ H s) (f : ∀ b ∈ fp, FpOk X pins H b)
    (J : Inv (cxComp X N sc cl s.heap.objs.size s H fp (X.pn ++ pins)) [] τ H' s') (hs : Heap.SameBut s.heap.objs.size s'.heap h') :
    Inv X pins σ H' { s' with heap := h' } := by
  have hlt : ∀ b o, s.heap.get? b = some o → b ≠ s.heap.objs.size := fun b o e => Nat.ne_of_lt (Heap.lt_size e)
  have u := J.base
  refine I.call' (ch := fp) J.os ⟨fun b o e n hb hx => ?_, fun b o e n hb hx => ?_, u.free, fun b o e hx => ?_, u.tups, u.frzs, u.tbls⟩ (fun a o e => ?_) J.bare fun b hb => ⟨(f b hb).2.2.2.1, (f b hb).2.1, (f b hb).2.2.2.2.1, (f b hb).2.2.2.2.2⟩
  · exact (hs.2 b (hlt b o e)).trans (u.keep b o e n hb hx)
  · obtain ⟨sl, q⟩ := u.slot b o e n hb hx
    exact ⟨sl, (hs.2 b (hlt b o e)).trans q⟩
  · obtain ⟨o', q⟩ := u.there b o e hx
    exact ⟨o', (hs.2 b (hlt b o e)).trans q⟩
  · have hC : H' s.heap.objs.size = none := J.free
    refine (J.hok a o e).stay (fun b v hb q => (hs.2 b ?_).trans q) (fun _ q => q) fun _ _ q => q
    intro z
    rcases hb with hb | hb
    · rw [← hb, z, hC] at e; cases e
    · rw [z, hC] at hb; cases hb

/-- the block itself: from the iterator to the end, the post is told of the block's own state -/
theorem comp_run {elt tg iter : Expr} {ifs : List Expr} {pos : Pos} {g : TG} {tf : TT} {te : TE} {Q : VK} {RR : Value → Addr → Result → Shared → Prop} {itv : Value} (hx : X.xe = fun _ _ => False) (hc : X.calm = true)
    (K : CompOk X N sc cl fr)
    (hb : ∀ C s₀ H₀ ex pn, PG (cxComp X N sc cl C s₀ H₀ ex pn) tg g ∧ PIfs (cxComp X N sc cl C s₀ H₀ ex pn) ifs tf ∧ PE (cxComp X N sc cl C s₀ H₀ ex pn) elt te)
    (h2 : PIE X pins σ tg (fun J H1 => ∀ acc, H1 acc = none →
      ∃ W : Nat → Nat → St → List V → Hp → Prop, (∃ m, W 0 m (startC N.length fr σ) [] (upd H1 acc (.lst []))) ∧ ∀ i m τ ys H2, W i m τ ys H2 →
        H2 acc = some (.lst ys) ∧ ((J.stop i H2 ∧ Q (.ref acc) H2) ∨ (J.go i H2 ∧ ∀ x H3, J.yld i H2 x H3 → g x τ H3 fun τ4 H4 => tf τ4 H4 fun b H5 =>
          if b = true then te τ4 H5 fun v H6 => H6 acc = some (.lst ys) ∧ ys.length < sizeLine ∧ ∃ m', m' < m ∧ W (i + 1) m' τ4 (ys ++ [v]) (upd H6 acc (.lst (ys ++ [v])))
          else ∃ m', m' < m ∧ W (i + 1) m' τ4 ys H5))) itv s)
    (hR : ∀ (acc : Addr) (s3 : Shared) (H3 H' : Hp) (fp : List Addr) (τ : St) (s' : Shared), Inv X pins σ H3 s3 → (∀ b ∈ fp, FpOk X pins H3 b) → Inv (cxComp X N sc cl s3.heap.objs.size s3 H3 fp (X.pn ++ pins)) [] τ H' s' → Q (.ref acc) H' → RR (.ref acc) s3.heap.objs.size (.ok .next) s') :
    wpAny (model X.prog X.w) X.A (newList []) (fun acc s₃ => wpAny (model X.prog X.w) X.A (newFunctionEnv sc X.env.globals cl [] X.env.qual none .none (some X.env)) (fun cenv s₄ =>
      codeAny (model X.prog X.w) X.A (.compStart (.ListComp elt [⟨tg, iter, ifs, 0⟩] sc pos) 0 itv acc { cenv with scope := relabel sc X.env }) (RR acc cenv.locals) s₄) X.xe s₃) X.xe s := by
  obtain ⟨it, fp, tn, J, H1, e, I1, T, st1, f1, hw⟩ := h2
  subst e
  have hfr := I1.hok.fresh (Nat.le_refl _)
  obtain ⟨W, ⟨m0, w0⟩, turn⟩ := hw s.heap.objs.size hfr
  refine wpAny_newObj_type ?_
  have I3 : Inv X pins σ (upd H1 s.heap.objs.size (.lst [])) { s with heap := s.heap.push { cls := .type "list", data := .seq ([] : List Value).toArray } } := I1.lnew (t' := s.toks) (its := []) .nil (Nat.zero_le _)
  have fpne : ∀ b ∈ fp, b ≠ s.heap.objs.size := fun b hb => by
    obtain ⟨o, ho, _⟩ := T.obj _ _ st1 b hb
    exact Nat.ne_of_lt (Heap.lt_size ho)
  have f3 : ∀ b ∈ fp, FpOk X pins (upd H1 s.heap.objs.size (.lst [])) b := fun b hb => ⟨by rw [upd_ne (fpne b hb)]; exact (f1 b hb).1, (f1 b hb).2⟩
  generalize hs3 : ({ s with heap := s.heap.push { cls := .type "list", data := .seq ([] : List Value).toArray } } : Shared) = s3 at I3
  have st3 : tn 0 s3.heap := T.keep _ _ _ st1 fun b _ o e => by rw [← hs3]; exact Heap.get?_push_of_some _ e
  have ho3 : ∀ b ∈ fp, ∃ o, s3.heap.get? b = some o := fun b hb => by obtain ⟨o, ho, _⟩ := T.obj _ _ st3 b hb; exact ⟨o, ho⟩
  generalize hacc : s.heap.objs.size = acc at *
  refine wpAny_newFunctionEnv K.nocell (by intro y hy; simp at hy) (fun h₁ hns₁ hsb₁ => ?_) K.kind
  have hk : ∀ b o, s3.heap.get? b = some o → h₁.get? b = some o := fun b o e => (hsb₁.2 b (Nat.ne_of_lt (Heap.lt_size e))).trans (Heap.get?_push_of_some _ e)
  have I4 := comp_start (t' := s3.toks + ([] : List (Str × Value)).length) I3 K f3 ho3 hns₁ hk
  have st4 : tn 0 h₁ := T.keep _ _ _ st3 fun b _ o e => hk b o e
  have stat : ∀ {H' : Hp} {b : Addr}, b ∈ fp → H' b = none → FpOk (cxComp X N sc cl s3.heap.objs.size s3 (upd H1 acc (.lst [])) fp (X.pn ++ pins)) [] H' b := fun {H' b} hb hn => by
    refine ⟨hn, fun z => ?_, fun z => ?_, .inl hb, fun x c h => (f3 b hb).2.2.2.2.1 x c (K.sub x c h), fun p hp => (f3 b hb).2.2.2.2.2 p (by simpa using hp)⟩
    · obtain ⟨o, ho⟩ := ho3 b hb
      have z : b = s3.heap.objs.size := z
      exact absurd (Heap.lt_size ho) (by rw [z]; exact Nat.lt_irrefl _)
    · rcases List.mem_cons.mp (I3.stkSub b z) with q | q
      · exact (f3 b hb).2.1 q
      · exact (f3 b hb).2.2.1 q
  obtain ⟨hg, hf, he⟩ := hb s3.heap.objs.size s3 (upd H1 acc (.lst [])) fp (X.pn ++ pins)
  have loop : ∀ s₄ : Shared, s₄ = { s3 with heap := h₁, toks := s3.toks + ([] : List (Str × Value)).length } →
      codeAny (model X.prog X.w) X.A (.compLoop (.ListComp elt [⟨tg, iter, ifs, 0⟩] sc pos) 0 (.ref it) (.ref acc) (compEnvC sc cl s3.heap.objs.size X.env)) (RR (.ref acc) s3.heap.objs.size) s₄ := by
    rintro s₄ rfl
    refine compLoop_go (fun n s' => ∃ i τ ys H', Inv (cxComp X N sc cl s3.heap.objs.size s3 (upd H1 acc (.lst [])) fp (X.pn ++ pins)) [] τ H' s' ∧ tn i s'.heap ∧ (∀ b ∈ fp, H' b = none) ∧ W i n τ ys H') ?_ m0
      ⟨0, _, [], _, I4, st4, fun b hb => (f3 b hb).1, w0⟩
    rintro n s5 ⟨i, τ, ys, H5, I5, st5, fr5, w5⟩
    obtain ⟨hacc5, tr⟩ := turn i n τ ys H5 w5
    rcases tr with ⟨stop, q⟩ | ⟨go, step⟩
    · refine thn (T.done (cxComp X N sc cl s3.heap.objs.size s3 (upd H1 acc (.lst [])) fp (X.pn ++ pins)) rfl rfl rfl hc i [] s5 τ H5 _ I5 (fun b hb => stat hb (fr5 b hb)) st5 stop) fun r s6 hz_ => ?_
      obtain ⟨hr, I6⟩ := hz_
      subst hr
      exact hR acc s3 _ H5 fp τ s6 I3 f3 I6 q
    · refine thn (T.item (cxComp X N sc cl s3.heap.objs.size s3 (upd H1 acc (.lst [])) fp (X.pn ++ pins)) rfl rfl rfl hc i [] s5 τ H5 _ I5 (fun b hb => stat hb (fr5 b hb)) st5 go) fun r s6 hz_ => ?_
      obtain ⟨u, hr, h6⟩ := hz_
      subst hr
      refine thn h6 fun _ s7 hz_ => ?_
      obtain ⟨x, H7, I7, r7, y7, st7, fr7⟩ := hz_
      have I7' := I7.pinned (fun b hb => stat hb (fr7 b hb)) (T.obj _ _ st7)
      have again : ∀ {τ8 : St} {H8 : Hp} {s8 : Shared} {ys8 : List V}, Inv (cxComp X N sc cl s3.heap.objs.size s3 (upd H1 acc (.lst [])) fp (X.pn ++ pins)) ([] ++ pinsAt fp s7.heap) τ8 H8 s8 → (∃ m', m' < n ∧ W (i + 1) m' τ8 ys8 H8) →
          ∃ m, m < n ∧ ∃ i τ ys H', Inv (cxComp X N sc cl s3.heap.objs.size s3 (upd H1 acc (.lst [])) fp (X.pn ++ pins)) [] τ H' s8 ∧ tn i s8.heap ∧ (∀ b ∈ fp, H' b = none) ∧ W i m τ ys H' := fun {τ8 H8 s8 ys8} I8 ⟨m', hm, w8⟩ => by
        refine ⟨m', hm, i + 1, τ8, ys8, H8, I8.unpinned, T.keep _ _ _ st7 fun b hb o e => (I8.pin (b, o) (List.mem_append_right _ (List.mem_append_right _ (mem_pinsAt hb e)))).1, fun b hb => ?_, w8⟩
        obtain ⟨o, e, d⟩ := T.obj _ _ st7 b hb
        exact (I8.pin (b, o) (List.mem_append_right _ (List.mem_append_right _ (mem_pinsAt hb e)))).2.1
      have xf : ∀ (e : Value) (s : Shared), X.xe e s → False := fun e s h => by rw [hx] at h; exact h
      refine wpAny_mono (hg _ s7 τ H7 x u _ I7' r7 (step x H7 y7)) (fun _ s8 hz_ => ?_) xf
      obtain ⟨τ8, H8, I8, q8⟩ := hz_
      refine wpAny_mono (hf _ s8 τ8 H8 _ I8 q8) (fun ok s9 hz_ => ?_) xf
      obtain ⟨H9, I9, q9⟩ := hz_
      cases ok with
      | false => exact again I9 q9
      | true =>
        rw [if_pos rfl] at q9 ⊢
        refine wpAny_mono (he _ s9 τ8 H9 _ I9 q9) (fun v s10 hz_ => ?_) xf
        obtain ⟨y, H10, I10, ry, q10⟩ := hz_
        obtain ⟨h10, hz, q10⟩ := q10
        refine wpAny_mono (mt_append (X := cxComp X N sc cl s3.heap.objs.size s3 (upd H1 acc (.lst [])) fp (X.pn ++ pins)) _ s10 τ8 H10 (.ref acc) [y] (.ref acc) [v] (fun _ H' => H' = upd H10 acc (.lst (ys ++ [y]))) I10 rfl (.cons ry .nil) ⟨acc, ys, y, rfl, rfl, h10, hz, rfl⟩) (fun _ s11 hz_ => ?_) xf
        obtain ⟨z, H11, I11, _, e11⟩ := hz_
        subst e11
        exact again I11 q10
  exact codeAny_compStart_list (loop _ rfl) (T.self _ 0 _ _ _ st4 (loop _ rfl))
end

/-- [elt for tg in iter if ..] -/
theorem pe_comp {X : Cx} {N : List Str} {sc : Scope} {cl : List (Str × Addr)} {fr : List (Nat × Nat)} {elt tg iter : Expr} {ifs : List Expr} {pos : Pos} {wi : TI} {g : TG} {tf : TT} {te : TE} (hc : X.calm = true)
    (K : CompOk X N sc cl fr) (hi : PI X tg iter wi)
    (hb : ∀ C s₀ H₀ ex pn, PG (cxComp X.nox N sc cl C s₀ H₀ ex pn) tg g ∧ PIfs (cxComp X.nox N sc cl C s₀ H₀ ex pn) ifs tf ∧ PE (cxComp X.nox N sc cl C s₀ H₀ ex pn) elt te)
    (hs : ∀ x, foldedSetIterable iter X.env x = pure x := by intro _; rfl) : PE X (.ListComp elt [⟨tg, iter, ifs, 0⟩] sc pos) (tComp N.length fr wi g tf te) := by
  intro pins s σ H Q I h
  rw [eval_ListComp]
  refine wpAny_comprehension_free (use := none) rfl hs K.clos K.kind K.names (thn (hi pins s σ H _ I h) fun v s1 h1 => thn h1 fun itv s2 h2 => ?_)
  have K' : CompOk X.nox N sc cl fr := ⟨K.clos, K.kind, K.nocell, K.names, K.sub, K.has, K.frees⟩
  obtain ⟨it, fp, tn, J, H1, e, I1, T, st1, f1, hw⟩ := h2
  refine wpAny_mono (comp_run (X := X.nox) (pins := pins) (σ := σ) (Q := Q) (RR := fun acc C => compPost (model X.prog X.w) X.A X.xe none (EP X pins σ Q) acc C) rfl hc K' hb ⟨it, fp, tn, J, H1, e, I1.wish _, T, st1, f1, hw⟩ ?_) (fun _ _ q => wpAny_mono q (fun _ _ z => z) fun _ _ z => False.elim z) fun _ _ z => False.elim z
  intro acc s3 H3 H' fp' τ s' I3 f3 J' q
  obtain ⟨m, hm, _⟩ := J'.loc
  exact ⟨m, hm, fun h' hs' => ⟨.ref acc, H', (comp_back I3 f3 J' hs').unwish, rfl, q⟩⟩
end L2
namespace L2
open PySem PySem.Spec PyProof.Rows
/-! ### names and cells of a comprehension, by computation -/
def closL (cells : List (Str × Addr)) : List (Str × NameKind) → List (Str × Addr) → List (Str × Addr)
  | [], cs => cs
  | (n, k) :: r, cs => closL cells r (if k == .free then (n, (cells.lookup n).getD 0) :: cs else cs)
theorem closL_forIn {env : Env} : ∀ (names : List (Str × NameKind)) (cs : List (Str × Addr)), (∀ y ∈ names, y.2 = .free → ∃ c, env.cells.lookup y.1 = some c) →
    (forIn names cs (fun x r => match x with | (name, kind) => if (kind == NameKind.free) = true then (do let a ← cellOf env name; pure (ForInStep.yield ((name, a) :: r))) else pure (ForInStep.yield r)) : Sem (List (Str × Addr))) = pure (closL env.cells names cs)
  | [], cs, _ => by rfl
  | (n, k) :: r, cs, h => by
    rw [List.forIn_cons]
    by_cases hk : k = .free
    · subst hk
      obtain ⟨c, hc⟩ := h (n, .free) List.mem_cons_self rfl
      have e : cellOf env n = pure c := by unfold cellOf; rw [hc]
      simp only [e, closL, hc, Option.getD_some, beq_self_eq_true, if_true]
      exact closL_forIn r _ fun y hy => h y (List.mem_cons_of_mem _ hy)
    · have hb : (k == NameKind.free) = false := by simpa using hk
      simp only [hb, closL, Bool.false_eq_true, if_false]
      exact closL_forIn r _ fun y hy => h y (List.mem_cons_of_mem _ hy)
theorem closureFor_eq {sc : Scope} {env : Env} (h : ∀ y ∈ sc.names, y.2 = .free → ∃ c, env.cells.lookup y.1 = some c) : closureFor sc env = pure (closL env.cells sc.names []) := by
  unfold closureFor
  have := closL_forIn (env := env) sc.names [] h
  simp only [bind_pure_comp, id_map'] at *
  first
    | exact this
    | (rw [this]; rfl)
theorem closL_mem {cells : List (Str × Addr)} : ∀ {names : List (Str × NameKind)} {cs : List (Str × Addr)} {p : Str × Addr}, p ∈ closL cells names cs → p ∈ cs ∨ ((p.1, NameKind.free) ∈ names ∧ p.2 = (cells.lookup p.1).getD 0)
  | [], cs, p, h => .inl h
  | (n, k) :: r, cs, p, h => by
    unfold closL at h
    rcases closL_mem h with q | ⟨q1, q2⟩
    · by_cases hk : k = .free
      · subst hk
        rw [if_pos (by simp)] at q
        rcases List.mem_cons.mp q with e | e
        · subst e; exact .inr ⟨List.mem_cons_self, rfl⟩
        · exact .inl e
      · rw [if_neg (by simpa using hk)] at q
        exact .inl q
    · exact .inr ⟨List.mem_cons_of_mem _ q1, q2⟩
theorem closL_acc {cells : List (Str × Addr)} : ∀ {names : List (Str × NameKind)} {cs : List (Str × Addr)} {x : Str}, x ∈ cs.map (·.1) → x ∈ (closL cells names cs).map (·.1)
  | [], cs, x, h => h
  | (n, k) :: r, cs, x, h => by
    unfold closL
    refine closL_acc ?_
    split
    · rw [List.map_cons]; exact List.mem_cons_of_mem _ h
    · exact h
theorem closL_has {cells : List (Str × Addr)} : ∀ {names : List (Str × NameKind)} {cs : List (Str × Addr)} {x : Str}, (x, NameKind.free) ∈ names → x ∈ (closL cells names cs).map (·.1)
  | [], cs, x, h => by simp at h
  | (n, k) :: r, cs, x, h => by
    unfold closL
    rcases List.mem_cons.mp h with e | e
    · cases e
      rw [if_pos (by simp)]
      exact closL_acc (by simp)
    · exact closL_has e
theorem lookup_mem {β : Type} : ∀ {l : List (Str × β)} {x : Str} {b : β}, l.lookup x = some b → (x, b) ∈ l
  | [], x, b, h => by simp at h
  | (n, c) :: r, x, b, h => by
    rw [List.lookup_cons] at h
    cases hx : x == n with
    | true => rw [hx] at h; cases h; rw [eq_of_beq hx]; exact List.mem_cons_self
    | false => rw [hx] at h; exact List.mem_cons_of_mem _ (lookup_mem h)
theorem lookup_some {β : Type} : ∀ {l : List (Str × β)} {x : Str}, x ∈ l.map (·.1) → ∃ b, l.lookup x = some b
  | [], x, h => by simp at h
  | (n, c) :: r, x, h => by
    rw [List.lookup_cons]
    cases hx : x == n with
    | true => exact ⟨c, rfl⟩
    | false =>
      rw [List.map_cons] at h
      rcases List.mem_cons.mp h with e | e
      · subst e; simp at hx
      · exact lookup_some e
def compChk (N0 N : List Str) (sc0 sc : Scope) (fr : List (Nat × Nat)) : Bool :=
  sc.kind == .function && sc0.kind == .function && sc.names.all (fun x => !(x.2 == .cell)) && sc.names.all (fun x => !(x.2 == .local) || sc.names.lookup x.1 == some .local) &&
  sc.names.all (fun x => !(x.2 == .free) || (sc0.names.lookup x.1 == some .cell || sc0.names.lookup x.1 == some .free)) &&
  fr.all (fun p => match N[p.1]? with | some x => N0[p.2]? == some x && (sc0.names.lookup x == some .cell || sc0.names.lookup x == some .free) && sc.names.lookup x == some .free | none => false)
theorem relabel_free {sc : Scope} {env : Env} {x : Str} (hn : ∀ y ∈ sc.names, y.2 ≠ .cell) (h : (relabel sc env).names.lookup x = some .cell ∨ (relabel sc env).names.lookup x = some .free) : (x, NameKind.free) ∈ sc.names := by
  have all : ∀ (k : NameKind), (k = .cell ∨ k = .free) → (x, k) ∈ (relabel sc env).names → (x, NameKind.free) ∈ sc.names := by
    intro k hk hm
    unfold relabel at hm
    simp only [List.mem_map] at hm
    obtain ⟨⟨n, k'⟩, hy, e⟩ := hm
    dsimp only at e
    split at e
    · rename_i c
      cases e
      simp only [Bool.and_eq_true] at c
      have : k' = .free := by simpa using c.1.1
      rw [← this]; exact hy
    · cases e
      rcases hk with rfl | rfl
      · exact absurd rfl (hn _ hy)
      · exact hy
  rcases h with h | h
  · exact all _ (.inl rfl) (lookup_mem h)
  · exact all _ (.inr rfl) (lookup_mem h)
theorem relabel_get {sc : Scope} {env : Env} {x : Str} : ∀ {names : List (Str × NameKind)}, names.lookup x = some .free →
    (names.map fun (n, k) => if (k == NameKind.free && env.scope.kind == .function && env.kindOf n == some .cell) then (n, NameKind.cell) else (n, k)).lookup x = some .cell ∨
    (names.map fun (n, k) => if (k == NameKind.free && env.scope.kind == .function && env.kindOf n == some .cell) then (n, NameKind.cell) else (n, k)).lookup x = some .free
  | [], h => by simp at h
  | (n, k) :: r, h => by
    rw [List.map_cons]
    rw [List.lookup_cons] at h
    cases hx : x == n with
    | true =>
      rw [hx] at h
      cases h
      dsimp only
      split <;> simp [List.lookup_cons, hx]
    | false =>
      rw [hx] at h
      have ih := relabel_get (sc := sc) (env := env) (x := x) (names := r) h
      dsimp only
      split <;> (rw [List.lookup_cons, hx]; exact ih)
/-- the cells that a context has -/
def HasC (X : Cx) (sc0 : Scope) : Prop := ∀ x, (sc0.names.lookup x = some .cell ∨ sc0.names.lookup x = some .free) → ∃ c, X.env.cells.lookup x = some c
theorem compOkG {X : Cx} {N0 N : List Str} {sc0 sc : Scope} {fr : List (Nat × Nat)} (hN : X.N = N0) (hs : X.env.scope = sc0) (hce : HasC X sc0) (hc : compChk N0 N sc0 sc fr = true) : CompOk X N sc (closL X.env.cells sc.names []) fr := by
  unfold compChk at hc
  simp only [Bool.and_eq_true] at hc
  obtain ⟨⟨⟨⟨⟨c1, c2⟩, c3⟩, c4⟩, c5⟩, c6⟩ := hc
  have nocell : ∀ x ∈ sc.names, x.2 ≠ .cell := fun x hx e => by
    have := List.all_eq_true.mp c3 x hx
    rw [e] at this
    exact absurd this (by decide)
  have cells : ∀ y ∈ sc.names, y.2 = .free → ∃ c, X.env.cells.lookup y.1 = some c := fun y hy e => by
    have := List.all_eq_true.mp c5 y hy
    rw [e] at this
    exact hce y.1 (by simpa using this)
  have sub : ∀ x c, (closL X.env.cells sc.names []).lookup x = some c → X.env.cells.lookup x = some c := fun x c h => by
    rcases closL_mem (lookup_mem h) with q | ⟨q1, q2⟩
    · simp at q
    · obtain ⟨c', hc'⟩ := cells _ q1 rfl
      have hc' : X.env.cells.lookup x = some c' := hc'
      have q2 : c = (X.env.cells.lookup x).getD 0 := q2
      rw [hc'] at q2
      rw [hc', q2]; rfl
  refine ⟨closureFor_eq fun y hy e => cells y hy e, by simpa using c1, nocell, fun x hx e => ?_, sub, fun x h => lookup_some (closL_has (relabel_free nocell h)), fun p hp => ?_⟩
  · have := List.all_eq_true.mp c4 x hx
    rw [e] at this
    simpa using this
  · have := List.all_eq_true.mp c6 p hp
    cases q : N[p.1]? with
    | none => rw [q] at this; simp at this
    | some x =>
      rw [q] at this
      simp only [Bool.and_eq_true, Bool.or_eq_true, beq_iff_eq] at this
      refine ⟨x, rfl, by rw [hN]; exact this.1.1, by rw [hs]; exact this.1.2, ?_⟩
      exact relabel_get (sc := sc) (env := X.env) this.2

theorem hasC_def {X : Cx} {sc0 : Scope} {n0 : Nat} (h : X.env.cells = cellsFrom n0 sc0.names []) (nf : sc0.names.all (fun y => !(y.2 == .free)) = true) : HasC X sc0 := fun x hx => by
  rcases hx with q | q
  · rw [h]; exact cell_has q
  · have := List.all_eq_true.mp nf _ (lookup_mem q)
    exact absurd (show (!(NameKind.free == NameKind.free)) = true from this) (by decide)
/-- in a def's body -/
theorem compOk {X : Cx} {N0 N : List Str} {sc0 sc : Scope} {fr : List (Nat × Nat)} {n0 : Nat} (hN : X.N = N0) (hs : X.env.scope = sc0 ∧ X.env.cells = cellsFrom n0 sc0.names []) (hc : (sc0.names.all (fun y => !(y.2 == .free)) && compChk N0 N sc0 sc fr) = true) : CompOk X N sc (closL X.env.cells sc.names []) fr := by
  rw [Bool.and_eq_true] at hc
  exact compOkG hN hs.1 (hasC_def hs.2 hc.1) hc.2

end L2
namespace L2
open PySem PySem.Spec PyProof.Rows
/-! ### data: scalars, tuples, lists -/
inductive Dt where
  | v (x : V)
  | tup (l : List Dt)
  | lst (l : List Dt)
/-- flat values whose == is data's -/
def Sc (x : V) : Prop := match x with
  | .int _ => True
  | .str _ => True
  | .non => True
  | _ => False
mutual
/-- x stands for d -/
def Rep (H : Hp) (x : V) : Dt → Prop
  | .v y => x = y ∧ Sc y
  | .tup ds => ∃ a xs, x = .ref a ∧ H a = some (.tup xs) ∧ Reps H xs ds
  | .lst ds => ∃ a xs, x = .ref a ∧ H a = some (.lst xs) ∧ Reps H xs ds
def Reps (H : Hp) (xs : List V) : List Dt → Prop
  | [] => xs = []
  | d :: ds => ∃ x r, xs = x :: r ∧ Rep H x d ∧ Reps H r ds
end
theorem Reps.nil {H : Hp} : Reps H [] [] := by unfold Reps; rfl
theorem Reps.cons {H : Hp} {x : V} {xs : List V} {d : Dt} {ds : List Dt} (h : Rep H x d) (t : Reps H xs ds) : Reps H (x :: xs) (d :: ds) := by
  unfold Reps; exact ⟨x, xs, rfl, h, t⟩
theorem Rep.sc {H : Hp} {x : V} (h : Sc x) : Rep H x (.v x) := by unfold Rep; exact ⟨rfl, h⟩
theorem Rep.int {H : Hp} (i : Int) : Rep H (.int i) (.v (.int i)) := .sc trivial
theorem Reps.length {H : Hp} : ∀ {xs : List V} {ds : List Dt}, Reps H xs ds → xs.length = ds.length
  | xs, [], h => by unfold Reps at h; rw [h]; rfl
  | xs, d :: ds, h => by
    unfold Reps at h
    obtain ⟨x, r, rfl, _, h2⟩ := h
    rw [List.length_cons, List.length_cons, Reps.length h2]
theorem Reps.get {H : Hp} : ∀ {xs : List V} {ds : List Dt} {i : Nat} {d : Dt}, Reps H xs ds → ds[i]? = some d → ∃ x, xs[i]? = some x ∧ Rep H x d
  | xs, [], i, d, _, e => by simp at e
  | xs, d' :: ds, i, d, h, e => by
    unfold Reps at h
    obtain ⟨x, r, rfl, h1, h2⟩ := h
    cases i with
    | zero => simp at e; subst e; exact ⟨x, by simp, h1⟩
    | succ i =>
      obtain ⟨y, hy, q⟩ := Reps.get (i := i) (d := d) h2 (by simpa using e)
      exact ⟨y, by simpa using hy, q⟩
theorem Reps.at {H : Hp} {xs : List V} {ds : List Dt} {i : Nat} {x : V} (h : Reps H xs ds) (e : xs[i]? = some x) : ∃ d, ds[i]? = some d ∧ Rep H x d := by
  have hl := h.length
  have hi : i < ds.length := by have := (List.getElem?_eq_some_iff.mp e).1; omega
  obtain ⟨y, hy, q⟩ := h.get (List.getElem?_eq_getElem hi)
  rw [e] at hy; cases hy
  exact ⟨_, List.getElem?_eq_getElem hi, q⟩
theorem Reps.append {H : Hp} : ∀ {xs : List V} {ds : List Dt} {ys : List V} {es : List Dt}, Reps H xs ds → Reps H ys es → Reps H (xs ++ ys) (ds ++ es)
  | xs, [], ys, es, h, g => by unfold Reps at h; subst h; exact g
  | xs, d :: ds, ys, es, h, g => by
    unfold Reps at h
    obtain ⟨x, r, rfl, h1, h2⟩ := h
    exact .cons h1 (Reps.append h2 g)
theorem Reps.take {H : Hp} : ∀ {xs : List V} {ds : List Dt} (n : Nat), Reps H xs ds → Reps H (xs.take n) (ds.take n)
  | xs, ds, 0, _ => by simp; exact .nil
  | xs, [], n + 1, h => by unfold Reps at h; subst h; simp; exact .nil
  | xs, d :: ds, n + 1, h => by
    unfold Reps at h
    obtain ⟨x, r, rfl, h1, h2⟩ := h
    exact .cons h1 (Reps.take n h2)
theorem Reps.drop {H : Hp} : ∀ {xs : List V} {ds : List Dt} (n : Nat), Reps H xs ds → Reps H (xs.drop n) (ds.drop n)
  | xs, ds, 0, h => by simpa using h
  | xs, [], n + 1, h => by unfold Reps at h; subst h; simp; exact .nil
  | xs, d :: ds, n + 1, h => by
    unfold Reps at h
    obtain ⟨x, r, rfl, h1, h2⟩ := h
    simpa using Reps.drop n h2
/-! what was tracked stays -/
mutual
theorem Rep.keep {H H' : Hp} (k : ∀ b o, H b = some o → H' b = some o) {x : V} : ∀ {d : Dt}, Rep H x d → Rep H' x d
  | .v y, h => by unfold Rep at h ⊢; exact h
  | .tup ds, h => by
    unfold Rep at h ⊢
    obtain ⟨a, xs, e, h1, h2⟩ := h
    exact ⟨a, xs, e, k _ _ h1, Reps.keep k h2⟩
  | .lst ds, h => by
    unfold Rep at h ⊢
    obtain ⟨a, xs, e, h1, h2⟩ := h
    exact ⟨a, xs, e, k _ _ h1, Reps.keep k h2⟩
theorem Reps.keep {H H' : Hp} (k : ∀ b o, H b = some o → H' b = some o) {xs : List V} : ∀ {ds : List Dt}, Reps H xs ds → Reps H' xs ds
  | [], h => by unfold Reps at h ⊢; exact h
  | d :: ds, h => by
    unfold Reps at h ⊢
    obtain ⟨x, r, e, h1, h2⟩ := h
    exact ⟨x, r, e, Rep.keep k h1, Reps.keep k h2⟩
end
mutual
/-- data without lists stays whatever is written -/
def Froz : Dt → Prop
  | .v _ => True
  | .tup ds => Frozs ds
  | .lst _ => False
def Frozs : List Dt → Prop
  | [] => True
  | d :: ds => Froz d ∧ Frozs ds
end
mutual
theorem Rep.froz {H H' : Hp} (k : ∀ b xs, H b = some (.tup xs) → H' b = some (.tup xs)) {x : V} : ∀ {d : Dt}, Froz d → Rep H x d → Rep H' x d
  | .v y, _, h => by unfold Rep at h ⊢; exact h
  | .tup ds, f, h => by
    unfold Froz at f
    unfold Rep at h ⊢
    obtain ⟨a, xs, e, h1, h2⟩ := h
    exact ⟨a, xs, e, k _ _ h1, Reps.froz k f h2⟩
  | .lst ds, f, h => by unfold Froz at f; exact f.elim
theorem Reps.froz {H H' : Hp} (k : ∀ b xs, H b = some (.tup xs) → H' b = some (.tup xs)) {xs : List V} : ∀ {ds : List Dt}, Frozs ds → Reps H xs ds → Reps H' xs ds
  | [], _, h => by unfold Reps at h ⊢; exact h
  | d :: ds, f, h => by
    unfold Frozs at f
    unfold Reps at h ⊢
    obtain ⟨x, r, e, h1, h2⟩ := h
    exact ⟨x, r, e, Rep.froz k f.1 h1, Reps.froz k f.2 h2⟩
end
/-! == of data -/
mutual
def eqD : Dt → Dt → Bool
  | .v x, .v y => decide (x = y)
  | .tup a, .tup b => eqDs a b
  | .lst a, .lst b => eqDs a b
  | _, _ => false
def eqDs : List Dt → List Dt → Bool
  | [], [] => true
  | a :: r, b :: t => eqD a b && eqDs r t
  | _, _ => false
end
mutual
theorem eqD_refl : ∀ d : Dt, eqD d d = true
  | .v x => by unfold eqD; simp
  | .tup a => by unfold eqD; exact eqDs_refl a
  | .lst a => by unfold eqD; exact eqDs_refl a
theorem eqDs_refl : ∀ d : List Dt, eqDs d d = true
  | [] => by unfold eqDs; rfl
  | a :: r => by unfold eqDs; rw [eqD_refl a, eqDs_refl r]; rfl
end
mutual
theorem eqD_eq : ∀ {a b : Dt}, eqD a b = true → a = b
  | .v x, .v y, h => by unfold eqD at h; rw [of_decide_eq_true h]
  | .tup a, .tup b, h => by unfold eqD at h; rw [eqDs_eq h]
  | .lst a, .lst b, h => by unfold eqD at h; rw [eqDs_eq h]
  | .v _, .tup _, h => by simp [eqD] at h
  | .v _, .lst _, h => by simp [eqD] at h
  | .tup _, .v _, h => by simp [eqD] at h
  | .tup _, .lst _, h => by simp [eqD] at h
  | .lst _, .v _, h => by simp [eqD] at h
  | .lst _, .tup _, h => by simp [eqD] at h
theorem eqDs_eq : ∀ {a b : List Dt}, eqDs a b = true → a = b
  | [], [], _ => rfl
  | a :: r, b :: t, h => by
    unfold eqDs at h
    rw [Bool.and_eq_true] at h
    rw [eqD_eq h.1, eqDs_eq h.2]
  | [], _ :: _, h => by simp [eqDs] at h
  | _ :: _, [], h => by simp [eqDs] at h
end
theorem eqDs_len : ∀ {a b : List Dt}, a.length ≠ b.length → eqDs a b = false
  | [], [], h => absurd rfl h
  | [], _ :: _, _ => by unfold eqDs; rfl
  | _ :: _, [], _ => by unfold eqDs; rfl
  | a :: r, b :: t, h => by
    unfold eqDs
    rw [eqDs_len (a := r) (b := t) (fun e => h (by rw [List.length_cons, List.length_cons, e])), Bool.and_false]
theorem eqDs_all : ∀ {a b : List Dt} {e : Nat → Bool}, a.length = b.length → (∀ (j : Nat) x y, a[j]? = some x → b[j]? = some y → e j = eqD x y) → (List.range a.length).all e = eqDs a b
  | [], [], e, _, _ => by unfold eqDs; rfl
  | [], _ :: _, _, h, _ => by simp at h
  | _ :: _, [], _, h, _ => by simp at h
  | a :: r, b :: t, e, h, g => by
    have h' : r.length = t.length := by simpa using h
    have := eqDs_all (a := r) (b := t) (e := fun j => e (j + 1)) h' fun j x y hx hy => g (j + 1) x y (by simpa using hx) (by simpa using hy)
    unfold eqDs
    rw [List.length_cons, List.range_succ_eq_map, List.all_cons, List.all_map, ← this, g 0 a b (by simp) (by simp)]
    rfl
mutual
/-- how deep -/
def depD : Dt → Nat
  | .v _ => 0
  | .tup l => depDs l + 1
  | .lst l => depDs l + 1
def depDs : List Dt → Nat
  | [] => 0
  | d :: r => max (depD d) (depDs r)
end
theorem depDs_get : ∀ {l : List Dt} {j : Nat} {x : Dt}, l[j]? = some x → depD x ≤ depDs l
  | [], j, x, h => by simp at h
  | d :: r, j, x, h => by
    unfold depDs
    cases j with
    | zero => simp at h; subst h; exact Nat.le_max_left _ _
    | succ j => exact Nat.le_trans (depDs_get (l := r) (j := j) (by simpa using h)) (Nat.le_max_right _ _)
section
variable {X : Cx} {pins : List (Addr × Obj)} {σ : St} {H : Hp} {s : Shared}
theorem Inv.isList (I : Inv X pins σ H s) {a : Addr} {xs : List V} (h : H a = some (.lst xs)) : ∃ its : List Value, Vals xs its ∧ s.heap.IsList a its.toArray := by
  obtain ⟨z, its, n, r, e⟩ := I.hok a _ h
  exact ⟨its, r, _, e, rfl, n, rfl⟩
theorem Inv.isTup (I : Inv X pins σ H s) {a : Addr} {xs : List V} (h : H a = some (.tup xs)) : ∃ its : List Value, Vals xs its ∧ IsTup s.heap a its.toArray := by
  obtain ⟨z, its, r, e⟩ := I.hok a _ h
  exact ⟨its, r, e⟩
theorem eqAt_sc {A : Around} {x y : V} {u v : Value} (hx : Sc x) (hy : Sc y) (rx : RelV x u) (ry : RelV y v) : SeqAt.EqAt A s u v (decide (x = y)) := by
  cases x with
  | int i =>
    obtain ⟨t, rfl⟩ := rx
    cases y with
    | int j => obtain ⟨t', rfl⟩ := ry; rw [dec_int]; exact SeqAt.EqAt.int_int i t j t'
    | str j => obtain ⟨t', rfl⟩ := ry; rw [decide_eq_false (by simp)]; exact SeqAt.EqAt.int_str i t j t'
    | non => cases ry; rw [decide_eq_false (by simp)]; exact SeqAt.EqAt.int_none i t
    | _ => exact hy.elim
  | str i =>
    obtain ⟨t, rfl⟩ := rx
    cases y with
    | int j => obtain ⟨t', rfl⟩ := ry; rw [decide_eq_false (by simp)]; exact SeqAt.EqAt.str_int i t j t'
    | str j => obtain ⟨t', rfl⟩ := ry; rw [dec_str]; exact SeqAt.EqAt.str_str i t j t'
    | non => cases ry; rw [decide_eq_false (by simp)]; exact SeqAt.EqAt.str_none i t
    | _ => exact hy.elim
  | non =>
    cases rx
    cases y with
    | int j => obtain ⟨t', rfl⟩ := ry; rw [decide_eq_false (by simp)]; exact SeqAt.EqAt.none_int j t'
    | str j => obtain ⟨t', rfl⟩ := ry; rw [decide_eq_false (by simp)]; exact SeqAt.EqAt.none_str j t'
    | non => cases ry; rw [decide_eq_true rfl]; exact SeqAt.EqAt.same .none
    | _ => exact hy.elim
  | _ => exact hx.elim
theorem A_in1 (A : Around) : A.in1.units = A.units + 1 := rfl
mutual
theorem Rep.inj {x : V} : ∀ {d e : Dt}, Rep H x d → Rep H x e → d = e
  | .v a, e, h, g => by
    unfold Rep at h
    obtain ⟨rfl, sx⟩ := h
    cases e with
    | v b => unfold Rep at g; rw [g.1]
    | tup b => unfold Rep at g; obtain ⟨a, xs, rfl, _⟩ := g; exact sx.elim
    | lst b => unfold Rep at g; obtain ⟨a, xs, rfl, _⟩ := g; exact sx.elim
  | .tup ds, e, h, g => by
    unfold Rep at h
    obtain ⟨a, xs, rfl, ha, hd⟩ := h
    cases e with
    | v b => unfold Rep at g; obtain ⟨rfl, sx⟩ := g; exact sx.elim
    | tup b =>
      unfold Rep at g
      obtain ⟨a', xs', q, ha', hd'⟩ := g
      cases q
      rw [ha] at ha'; cases ha'
      rw [Reps.inj hd hd']
    | lst b =>
      unfold Rep at g
      obtain ⟨a', xs', q, ha', hd'⟩ := g
      cases q
      rw [ha] at ha'; cases ha'
  | .lst ds, e, h, g => by
    unfold Rep at h
    obtain ⟨a, xs, rfl, ha, hd⟩ := h
    cases e with
    | v b => unfold Rep at g; obtain ⟨rfl, sx⟩ := g; exact sx.elim
    | lst b =>
      unfold Rep at g
      obtain ⟨a', xs', q, ha', hd'⟩ := g
      cases q
      rw [ha] at ha'; cases ha'
      rw [Reps.inj hd hd']
    | tup b =>
      unfold Rep at g
      obtain ⟨a', xs', q, ha', hd'⟩ := g
      cases q
      rw [ha] at ha'; cases ha'
theorem Reps.inj {xs : List V} : ∀ {d e : List Dt}, Reps H xs d → Reps H xs e → d = e
  | [], [], _, _ => rfl
  | [], e :: es, h, g => by
    unfold Reps at h g
    obtain ⟨x, r, q, _⟩ := g
    rw [h] at q; cases q
  | d :: ds, [], h, g => by
    unfold Reps at h g
    obtain ⟨x, r, q, _⟩ := h
    rw [g] at q; cases q
  | d :: ds, e :: es, h, g => by
    unfold Reps at h g
    obtain ⟨x, r, rfl, h1, h2⟩ := h
    obtain ⟨x', r', q, g1, g2⟩ := g
    injection q with q1 q2
    subst q1 q2
    rw [Rep.inj h1 g1, Reps.inj h2 g2]
end
theorem eqAt_v (I : Inv X pins σ H s) {A : Around} {x y : V} {u v : Value} {e : Dt} (hu : A.units < cLine) (rx : RelV x u) (ry : RelV y v) (sx : Sc x) (hy : Rep H y e) : SeqAt.EqAt A s u v (eqD (.v x) e) := by
  cases e with
  | v b =>
    unfold Rep at hy
    obtain ⟨rfl, sy⟩ := hy
    unfold eqD
    exact eqAt_sc sx sy rx ry
  | tup es =>
    unfold Rep at hy
    obtain ⟨b, ys, rfl, hb, _⟩ := hy
    cases ry
    obtain ⟨its, _, ht⟩ := I.isTup hb
    have e0 : eqD (.v x) (.tup es) = false := by simp [eqD]
    rw [e0]
    cases x with
    | int i => obtain ⟨t, rfl⟩ := rx; exact SeqAt.EqAt.int_tuple i t ht hu
    | str i => obtain ⟨t, rfl⟩ := rx; exact SeqAt.EqAt.str_tuple i t ht hu
    | non => cases rx; exact SeqAt.EqAt.none_tuple ht hu
    | _ => exact sx.elim
  | lst es =>
    unfold Rep at hy
    obtain ⟨b, ys, rfl, hb, _⟩ := hy
    cases ry
    obtain ⟨its, _, ht⟩ := I.isList hb
    have e0 : eqD (.v x) (.lst es) = false := by simp [eqD]
    rw [e0]
    cases x with
    | int i => obtain ⟨t, rfl⟩ := rx; exact SeqAt.EqAt.int_list i t ht hu
    | str i => obtain ⟨t, rfl⟩ := rx; exact SeqAt.EqAt.str_list i t ht hu
    | non => cases rx; exact SeqAt.EqAt.none_list ht hu
    | _ => exact sx.elim
theorem eqAt_tv (I : Inv X pins σ H s) {A : Around} {a : Addr} {xs : List V} {y : V} {v : Value} (hu : A.units < cLine) (ha : H a = some (.tup xs)) (ry : RelV y v) (sy : Sc y) : SeqAt.EqAt A s (.ref a) v false := by
  obtain ⟨its, _, ht⟩ := I.isTup ha
  cases y with
  | int i => obtain ⟨t, rfl⟩ := ry; exact SeqAt.EqAt.tuple_int i t ht hu
  | str i => obtain ⟨t, rfl⟩ := ry; exact SeqAt.EqAt.tuple_str i t ht hu
  | non => cases ry; exact SeqAt.EqAt.tuple_none ht hu
  | _ => exact sy.elim
theorem eqAt_lv (I : Inv X pins σ H s) {A : Around} {a : Addr} {xs : List V} {y : V} {v : Value} (hu : A.units < cLine) (ha : H a = some (.lst xs)) (ry : RelV y v) (sy : Sc y) : SeqAt.EqAt A s (.ref a) v false := by
  obtain ⟨its, _, ht⟩ := I.isList ha
  cases y with
  | int i => obtain ⟨t, rfl⟩ := ry; exact SeqAt.EqAt.list_int i t ht hu
  | str i => obtain ⟨t, rfl⟩ := ry; exact SeqAt.EqAt.list_str i t ht hu
  | non => cases ry; exact SeqAt.EqAt.list_none ht hu
  | _ => exact sy.elim
/-- the items of two rows -/
theorem eqAt_items {A : Around} {xs ys : List V} {its jts : List Value} {ds es : List Dt} (rx : Vals xs its) (ry : Vals ys jts) (hx : Reps H xs ds) (hy : Reps H ys es)
    (ih : ∀ {x y : V} {u v : Value} {d e : Dt}, (∃ j : Nat, ds[j]? = some d) → RelV x u → RelV y v → Rep H x d → Rep H y e → SeqAt.EqAt A s u v (eqD d e)) :
    ∀ j (h1 : j < its.toArray.size) (h2 : j < jts.toArray.size), SeqAt.EqAt A s its.toArray[j] jts.toArray[j] ((ds[j]?).elim false fun d => (es[j]?).elim false fun e => eqD d e) := by
  intro j h1 h2
  have l1 := rx.length
  have l2 := ry.length
  have l3 := hx.length
  have l4 := hy.length
  have h1' : j < its.length := by simpa using h1
  have h2' : j < jts.length := by simpa using h2
  have k1 : j < ds.length := by omega
  have k2 : j < es.length := by omega
  obtain ⟨x, ex, qx⟩ := hx.get (List.getElem?_eq_getElem k1)
  obtain ⟨y, ey, qy⟩ := hy.get (List.getElem?_eq_getElem k2)
  obtain ⟨u, eu, ru⟩ := rx.get ex
  obtain ⟨v, ev, rv⟩ := ry.get ey
  rw [List.getElem?_eq_getElem k1, List.getElem?_eq_getElem k2]
  have eu' : its.toArray[j] = u := by
    rw [List.getElem?_eq_getElem h1'] at eu
    simpa using eu
  have ev' : jts.toArray[j] = v := by
    rw [List.getElem?_eq_getElem h2'] at ev
    simpa using ev
  rw [eu', ev']
  exact ih ⟨j, List.getElem?_eq_getElem k1⟩ ru rv qx qy
theorem elim_eqD {ds es : List Dt} : ∀ (j : Nat) x y, ds[j]? = some x → es[j]? = some y → ((ds[j]?).elim false fun d => (es[j]?).elim false fun e => eqD d e) = eqD x y := fun j x y hx hy => by rw [hx, hy]; rfl
theorem range_min_all {n m : Nat} {e : Nat → Bool} : ((List.range (min n m)).all e && n == m) = (if n = m then (List.range n).all e else false) := by
  by_cases h : n = m
  · subst h; simp
  · rw [if_neg h]
    have : (n == m) = false := by simpa using h
    rw [this, Bool.and_false]
theorem rcAt_tups (I : Inv X pins σ H s) {A : Around} {a b : Addr} {xs ys : List V} {ds es : List Dt} (hu : A.units < cLine) (ha : H a = some (.tup xs)) (hb : H b = some (.tup ys)) (hx : Reps H xs ds) (hy : Reps H ys es)
    (ih : ∀ {x y : V} {u v : Value} {d e : Dt}, (∃ j : Nat, ds[j]? = some d) → RelV x u → RelV y v → Rep H x d → Rep H y e → SeqAt.EqAt A.in1 s u v (eqD d e)) : SeqAt.RcAt A s (.ref a) (.ref b) (eqDs ds es) := by
  obtain ⟨its, rx, hl⟩ := I.isTup ha
  obtain ⟨jts, ry, hr⟩ := I.isTup hb
  have := SeqAt.RcAt.tuples hl hr hu (eqAt_items rx ry hx hy ih)
  have l1 := rx.length
  have l2 := ry.length
  have l3 := hx.length
  have l4 := hy.length
  rw [range_min_all] at this
  simp only [List.size_toArray] at this
  by_cases h : its.length = jts.length
  · rw [if_pos h] at this
    have e := eqDs_all (a := ds) (b := es) (e := fun j => (ds[j]?).elim false fun d => (es[j]?).elim false fun e => eqD d e) (by omega) elim_eqD
    rw [← e, show ds.length = its.length by omega]
    exact this
  · rw [if_neg h] at this
    rw [eqDs_len (by omega)]
    exact this
theorem rcAt_lsts (I : Inv X pins σ H s) {A : Around} {a b : Addr} {xs ys : List V} {ds es : List Dt} (hu : A.units < cLine) (ha : H a = some (.lst xs)) (hb : H b = some (.lst ys)) (hx : Reps H xs ds) (hy : Reps H ys es)
    (ih : ∀ {x y : V} {u v : Value} {d e : Dt}, (∃ j : Nat, ds[j]? = some d) → RelV x u → RelV y v → Rep H x d → Rep H y e → SeqAt.EqAt A.in1 s u v (eqD d e)) : SeqAt.RcAt A s (.ref a) (.ref b) (eqDs ds es) := by
  obtain ⟨its, rx, hl⟩ := I.isList ha
  obtain ⟨jts, ry, hr⟩ := I.isList hb
  have l1 := rx.length
  have l2 := ry.length
  have l3 := hx.length
  have l4 := hy.length
  by_cases h : its.length = jts.length
  · have := SeqAt.RcAt.lists hl hr (by simpa using h) hu (eqAt_items rx ry hx hy ih)
    have e := eqDs_all (a := ds) (b := es) (e := fun j => (ds[j]?).elim false fun d => (es[j]?).elim false fun e => eqD d e) (by omega) elim_eqD
    rw [← e, show ds.length = its.toArray.size by rw [List.size_toArray]; omega]
    exact this
  · rw [eqDs_len (by omega)]
    exact SeqAt.RcAt.lists_lengths hl hr (by simpa using h) hu
/-- two data compared -/
theorem eqAt_rep (I : Inv X pins σ H s) : ∀ (n : Nat) (A : Around) {x y : V} {u v : Value} {d e : Dt}, depD d ≤ n → A.units + n < cLine → RelV x u → RelV y v → Rep H x d → Rep H y e → SeqAt.EqAt A s u v (eqD d e) := by
  intro n
  induction n with
  | zero =>
    intro A x y u v d e hd hu rx ry hx hy
    cases d with
    | v a =>
      unfold Rep at hx
      obtain ⟨rfl, sx⟩ := hx
      exact eqAt_v I (by omega) rx ry sx hy
    | tup ds => unfold depD at hd; omega
    | lst ds => unfold depD at hd; omega
  | succ n ih =>
    intro A x y u v d e hd hu rx ry hx hy
    have hx0 := hx
    have hy0 := hy
    cases d with
    | v a =>
      unfold Rep at hx
      obtain ⟨rfl, sx⟩ := hx
      exact eqAt_v I (by omega) rx ry sx hy
    | tup ds =>
      unfold depD at hd
      unfold Rep at hx
      obtain ⟨a, xs, rfl, ha, hxs⟩ := hx
      cases rx
      cases e with
      | v b =>
        unfold Rep at hy
        obtain ⟨rfl, sy⟩ := hy
        have e0 : eqD (.tup ds) (.v y) = false := by simp [eqD]
        rw [e0]
        exact eqAt_tv I (by omega) ha ry sy
      | tup es =>
        unfold Rep at hy
        obtain ⟨b, ys, rfl, hb, hys⟩ := hy
        cases ry
        by_cases ab : a = b
        · subst ab
          rw [Rep.inj hx0 hy0, eqD_refl]
          exact SeqAt.EqAt.same _
        · refine .of_refs ab ?_
          unfold eqD
          refine rcAt_tups I (by omega) ha hb hxs hys fun {x y u v d e} ⟨j, hj⟩ r1 r2 q1 q2 => ih A.in1 ?_ ?_ r1 r2 q1 q2
          · have := depDs_get hj; omega
          · rw [A_in1]; omega
      | lst es =>
        unfold Rep at hy
        obtain ⟨b, ys, rfl, hb, hys⟩ := hy
        cases ry
        have e0 : eqD (.tup ds) (.lst es) = false := by simp [eqD]
        rw [e0]
        obtain ⟨its, _, ht⟩ := I.isTup ha
        obtain ⟨jts, _, hl⟩ := I.isList hb
        exact SeqAt.EqAt.tuple_list ht hl (by omega)
    | lst ds =>
      unfold depD at hd
      unfold Rep at hx
      obtain ⟨a, xs, rfl, ha, hxs⟩ := hx
      cases rx
      cases e with
      | v b =>
        unfold Rep at hy
        obtain ⟨rfl, sy⟩ := hy
        have e0 : eqD (.lst ds) (.v y) = false := by simp [eqD]
        rw [e0]
        exact eqAt_lv I (by omega) ha ry sy
      | lst es =>
        unfold Rep at hy
        obtain ⟨b, ys, rfl, hb, hys⟩ := hy
        cases ry
        by_cases ab : a = b
        · subst ab
          rw [Rep.inj hx0 hy0, eqD_refl]
          exact SeqAt.EqAt.same _
        · refine .of_refs ab ?_
          unfold eqD
          refine rcAt_lsts I (by omega) ha hb hxs hys fun {x y u v d e} ⟨j, hj⟩ r1 r2 q1 q2 => ih A.in1 ?_ ?_ r1 r2 q1 q2
          · have := depDs_get hj; omega
          · rw [A_in1]; omega
      | tup es =>
        unfold Rep at hy
        obtain ⟨b, ys, rfl, hb, hys⟩ := hy
        cases ry
        have e0 : eqD (.lst ds) (.tup es) = false := by simp [eqD]
        rw [e0]
        obtain ⟨its, _, ht⟩ := I.isTup hb
        obtain ⟨jts, _, hl⟩ := I.isList ha
        exact SeqAt.EqAt.list_tuple hl ht (by omega)
end
end L2
namespace L2
open PySem PySem.Spec PyProof.Rows
section
variable {X : Cx}
/-! ### ==, != of data -/
def rEqD (k : Nat) : R2 := fun x y H Q => ∃ d e, Rep H x d ∧ Rep H y e ∧ depD d ≤ k ∧ Q (.bl (eqD d e)) H
def rNeD (k : Nat) : R2 := fun x y H Q => ∃ d e, Rep H x d ∧ Rep H y e ∧ depD d ≤ k ∧ Q (.bl (!eqD d e)) H
theorem rc_rep {pins : List (Addr × Obj)} {σ : St} {H : Hp} {s : Shared} (I : Inv X pins σ H s) {n : Nat} {A : Around} {x y : V} {u v : Value} {d e : Dt} (hd : depD d ≤ n) (hu : A.units + n < cLine) (rx : RelV x u) (ry : RelV y v) (hx : Rep H x d) (hy : Rep H y e) :
    SeqAt.RcAt A s u v (eqD d e) := by
  cases d with
  | v a =>
    unfold Rep at hx
    obtain ⟨rfl, sx⟩ := hx
    cases e with
    | v b =>
      unfold Rep at hy
      obtain ⟨rfl, sy⟩ := hy
      unfold eqD
      cases x with
      | int i =>
        obtain ⟨t, rfl⟩ := rx
        cases y with
        | int j => obtain ⟨t', rfl⟩ := ry; rw [dec_int]; exact SeqAt.RcAt.int_int i t j t'
        | str j => obtain ⟨t', rfl⟩ := ry; rw [decide_eq_false (by simp)]; exact SeqAt.RcAt.int_str i t j t'
        | non => cases ry; rw [decide_eq_false (by simp)]; exact SeqAt.RcAt.int_none i t
        | _ => exact sy.elim
      | str i =>
        obtain ⟨t, rfl⟩ := rx
        cases y with
        | int j => obtain ⟨t', rfl⟩ := ry; rw [decide_eq_false (by simp)]; exact SeqAt.RcAt.str_int i t j t'
        | str j => obtain ⟨t', rfl⟩ := ry; rw [dec_str]; exact SeqAt.RcAt.str_str i t j t'
        | non => cases ry; rw [decide_eq_false (by simp)]; exact SeqAt.RcAt.str_none i t
        | _ => exact sy.elim
      | non =>
        cases rx
        cases y with
        | int j => obtain ⟨t', rfl⟩ := ry; rw [decide_eq_false (by simp)]; exact SeqAt.RcAt.none_int j t'
        | str j => obtain ⟨t', rfl⟩ := ry; rw [decide_eq_false (by simp)]; exact SeqAt.RcAt.none_str j t'
        | non => cases ry; rw [decide_eq_true rfl]; exact SeqAt.RcAt.none_none
        | _ => exact sy.elim
      | _ => exact sx.elim
    | tup es =>
      unfold Rep at hy
      obtain ⟨b, ys, rfl, hb, _⟩ := hy
      cases ry
      obtain ⟨its, _, ht⟩ := I.isTup hb
      have e0 : eqD (.v x) (.tup es) = false := by simp [eqD]
      rw [e0]
      cases x with
      | int i => obtain ⟨t, rfl⟩ := rx; exact SeqAt.RcAt.int_tuple i t ht (by omega)
      | str i => obtain ⟨t, rfl⟩ := rx; exact SeqAt.RcAt.str_tuple i t ht (by omega)
      | non => cases rx; exact SeqAt.RcAt.none_tuple ht (by omega)
      | _ => exact sx.elim
    | lst es =>
      unfold Rep at hy
      obtain ⟨b, ys, rfl, hb, _⟩ := hy
      cases ry
      obtain ⟨its, _, ht⟩ := I.isList hb
      have e0 : eqD (.v x) (.lst es) = false := by simp [eqD]
      rw [e0]
      cases x with
      | int i => obtain ⟨t, rfl⟩ := rx; exact SeqAt.RcAt.int_list i t ht (by omega)
      | str i => obtain ⟨t, rfl⟩ := rx; exact SeqAt.RcAt.str_list i t ht (by omega)
      | non => cases rx; exact SeqAt.RcAt.none_list ht (by omega)
      | _ => exact sx.elim
  | tup ds =>
    unfold depD at hd
    unfold Rep at hx
    obtain ⟨a, xs, rfl, ha, hxs⟩ := hx
    cases rx
    cases e with
    | v b =>
      unfold Rep at hy
      obtain ⟨rfl, sy⟩ := hy
      have e0 : eqD (.tup ds) (.v y) = false := by simp [eqD]
      rw [e0]
      obtain ⟨its, _, ht⟩ := I.isTup ha
      cases y with
      | int i => obtain ⟨t, rfl⟩ := ry; exact SeqAt.RcAt.tuple_int i t ht (by omega)
      | str i => obtain ⟨t, rfl⟩ := ry; exact SeqAt.RcAt.tuple_str i t ht (by omega)
      | non => cases ry; exact SeqAt.RcAt.tuple_none ht (by omega)
      | _ => exact sy.elim
    | tup es =>
      unfold Rep at hy
      obtain ⟨b, ys, rfl, hb, hys⟩ := hy
      cases ry
      unfold eqD
      refine rcAt_tups I (by omega) ha hb hxs hys fun {x y u v d e} ⟨j, hj⟩ r1 r2 q1 q2 => eqAt_rep I (n - 1) A.in1 ?_ ?_ r1 r2 q1 q2
      · have := depDs_get hj; omega
      · rw [A_in1]; omega
    | lst es =>
      unfold Rep at hy
      obtain ⟨b, ys, rfl, hb, hys⟩ := hy
      cases ry
      have e0 : eqD (.tup ds) (.lst es) = false := by simp [eqD]
      rw [e0]
      obtain ⟨its, _, ht⟩ := I.isTup ha
      obtain ⟨jts, _, hl⟩ := I.isList hb
      exact SeqAt.RcAt.tuple_list ht hl (by omega)
  | lst ds =>
    unfold depD at hd
    unfold Rep at hx
    obtain ⟨a, xs, rfl, ha, hxs⟩ := hx
    cases rx
    cases e with
    | v b =>
      unfold Rep at hy
      obtain ⟨rfl, sy⟩ := hy
      have e0 : eqD (.lst ds) (.v y) = false := by simp [eqD]
      rw [e0]
      obtain ⟨its, _, ht⟩ := I.isList ha
      cases y with
      | int i => obtain ⟨t, rfl⟩ := ry; exact SeqAt.RcAt.list_int i t ht (by omega)
      | str i => obtain ⟨t, rfl⟩ := ry; exact SeqAt.RcAt.list_str i t ht (by omega)
      | non => cases ry; exact SeqAt.RcAt.list_none ht (by omega)
      | _ => exact sy.elim
    | lst es =>
      unfold Rep at hy
      obtain ⟨b, ys, rfl, hb, hys⟩ := hy
      cases ry
      unfold eqD
      refine rcAt_lsts I (by omega) ha hb hxs hys fun {x y u v d e} ⟨j, hj⟩ r1 r2 q1 q2 => eqAt_rep I (n - 1) A.in1 ?_ ?_ r1 r2 q1 q2
      · have := depDs_get hj; omega
      · rw [A_in1]; omega
    | tup es =>
      unfold Rep at hy
      obtain ⟨b, ys, rfl, hb, hys⟩ := hy
      cases ry
      have e0 : eqD (.lst ds) (.tup es) = false := by simp [eqD]
      rw [e0]
      obtain ⟨its, _, ht⟩ := I.isTup hb
      obtain ⟨jts, _, hl⟩ := I.isList ha
      exact SeqAt.RcAt.list_tuple hl ht (by omega)
theorem op_eqD {k : Nat} (hu : X.A.units + k < cLine) : OpR X (compareOp .Eq) (rEqD k) := by
  intro pins s σ H x y v u Q I rx ry h
  obtain ⟨d, e, hx, hy, hd, q⟩ := h
  exact rc_rep I hd hu rx ry hx hy X.prog X.w X.xe _ ⟨.bl (eqD d e), H, I, rfl, q⟩
/-- != of two lists, of two tuples -/
def rNeL (k : Nat) : R2 := fun x y H Q => ∃ a b xs ys ds es, x = .ref a ∧ y = .ref b ∧ ((H a = some (.lst xs) ∧ H b = some (.lst ys)) ∨ (H a = some (.tup xs) ∧ H b = some (.tup ys))) ∧ Reps H xs ds ∧ Reps H ys es ∧ depDs ds ≤ k ∧ Q (.bl (!eqDs ds es)) H
theorem op_neL {k : Nat} (hu : X.A.units + k + 1 < cLine) : OpR X (compareOp .NotEq) (rNeL k) := by
  intro pins s σ H x y v u Q I rx ry h
  obtain ⟨a, b, xs, ys, ds, es, rfl, rfl, hab, hx, hy, hd, q⟩ := h
  cases rx; cases ry
  have l3 := hx.length
  have l4 := hy.length
  have ih : ∀ {x y : V} {u v : Value} {d e : Dt}, (∃ j : Nat, ds[j]? = some d) → RelV x u → RelV y v → Rep H x d → Rep H y e → SeqAt.EqAt X.A.in1 s u v (eqD d e) := fun {x y u v d e} ⟨j, hj⟩ r1 r2 q1 q2 =>
    eqAt_rep I k X.A.in1 (Nat.le_trans (depDs_get hj) hd) (by rw [A_in1]; omega) r1 r2 q1 q2
  rcases hab with ⟨ha, hb⟩ | ⟨ha, hb⟩
  · obtain ⟨its, r1, hl⟩ := I.isList ha
    obtain ⟨jts, r2, hr⟩ := I.isList hb
    have l1 := r1.length
    have l2 := r2.length
    by_cases h : its.length = jts.length
    · refine (SeqAt.RcNeAt.lists (A := X.A) hl hr (by simpa using h) (by omega) (eqAt_items r1 r2 hx hy ih) X.prog X.w X.xe _ ?_ : wpAny _ _ (richCompare .NotEq _ _) _ _ _)
      have e := eqDs_all (a := ds) (b := es) (e := fun j => (ds[j]?).elim false fun d => (es[j]?).elim false fun e => eqD d e) (by omega) elim_eqD
      rw [← e] at q
      rw [show its.toArray.size = ds.length by rw [List.size_toArray]; omega]
      exact ⟨.bl _, H, I, rfl, q⟩
    · refine (SeqAt.RcNeAt.lists_lengths (A := X.A) hl hr (by simpa using h) (by omega) X.prog X.w X.xe _ ?_ : wpAny _ _ (richCompare .NotEq _ _) _ _ _)
      rw [eqDs_len (by omega)] at q
      exact ⟨.bl true, H, I, rfl, q⟩
  · obtain ⟨its, r1, hl⟩ := I.isTup ha
    obtain ⟨jts, r2, hr⟩ := I.isTup hb
    have l1 := r1.length
    have l2 := r2.length
    refine (SeqAt.RcNeAt.tuples (A := X.A) hl hr (by omega) (eqAt_items r1 r2 hx hy ih) X.prog X.w X.xe _ ?_ : wpAny _ _ (richCompare .NotEq _ _) _ _ _)
    rw [range_min_all]
    simp only [List.size_toArray]
    by_cases h : its.length = jts.length
    · rw [if_pos h]
      have e := eqDs_all (a := ds) (b := es) (e := fun j => (ds[j]?).elim false fun d => (es[j]?).elim false fun e => eqD d e) (by omega) elim_eqD
      rw [← e] at q
      rw [show its.length = ds.length by omega]
      exact ⟨.bl _, H, I, rfl, q⟩
    · rw [if_neg h]
      rw [eqDs_len (by omega)] at q
      exact ⟨.bl true, H, I, rfl, q⟩
/-! ### all, any of a list of bools -/
theorem Vals.bools : ∀ {bs : List Bool} {us : List Value}, Vals (bs.map V.bl) us → ∀ (i : Nat) (v : Value), us[i]? = some v → ∃ b, bs[i]? = some b ∧ v = .bool b
  | [], us, h, i, v, e => by cases h; simp at e
  | b :: bs, us, h, i, v, e => by
    cases h with
    | cons r t =>
      cases i with
      | zero => simp at e; subst e; cases r; exact ⟨b, by simp, rfl⟩
      | succ i =>
        obtain ⟨c, h1, h2⟩ := Vals.bools t i v (by simpa using e)
        exact ⟨c, by simpa using h1, h2⟩
theorem call_all (hc : X.calm = true) : CallR X (.builtin "all") (fun xs H Q => ∃ (p : Addr) (bs : List Bool), xs = [.ref p] ∧ SqL X.K H p (bs.map V.bl) ∧ Q (.bl (bs.all id)) H) := by
  intro pins s σ H xs us Q I r h
  obtain ⟨p, bs, rfl, hp, q⟩ := h
  obtain ⟨u, rfl, ru⟩ := vals1 r
  cases ru
  obtain ⟨its, rv, ⟨o, n, ho, hcl, _, hd⟩, hz⟩ := I.list hp
  have hl : s.heap.IsList p its.toArray := ⟨o, ho, hcl, n, hd⟩
  have hlt : p < s.heap.objs.size := Heap.lt_size ho
  have hh : X.A.handled = none := I.ok.hd hc
  refine call_all_walk (wpAny_pyIter_list hl ?_)
  refine ⟨s.heap.objs.size, [s.heap.objs.size, p], [s.heap.objs.size], its.toArray.size, _, _, fun i => (bs[i]?).getD true, rfl, Walks.list (A := X.A.in1) hh _ p (Nat.ne_of_lt hlt) its.toArray,
    ⟨⟨_, Heap.get?_push_size _ rfl, rfl, rfl⟩, hl.push _⟩, fun i v s' Q' E' hP hQ => ?_, fun h' tk hk => ?_⟩
  · obtain ⟨b, e, rfl⟩ := rv.bools i v (by simpa using hP)
    simp only [e, Option.getD_some] at hQ
    exact wpAny_truthy_bool hQ
  · have e : ((List.range its.toArray.size).all fun i => (bs[i]?).getD true) = bs.all id := by
      rw [List.size_toArray, ← rv.length, List.length_map]; exact LSm.range_all bs
    rw [e]
    exact ⟨.bl _, H, I.kept (LSm.kept_iter hk), rfl, q⟩
/-! ### isinstance(x, T) for a built-in type -/
theorem call_isinst : CallR X (.builtin "isinstance") (fun xs H Q => ∃ x n t b, xs = [x, .ty n] ∧ TyOf X.K H x t ∧ PySem.W.kitOne X.K t (.type n) = some b ∧ Q (.bl b) H) := by
  intro pins s σ H xs us Q I r h
  obtain ⟨x, n, t, b, rfl, ty, e, q⟩ := h
  obtain ⟨u, c, rfl, ru, rc⟩ := vals2 r
  cases rc
  exact isinst_ok I ru ty e fun tk => ⟨.bl b, H, I.tok tk, rfl, q⟩
/-! ### list.insert -/
def rInsert : V → List V → Hp → VK → Prop := fun x vs H Q => ∃ l xs i y, x = .ref l ∧ vs = [.int i, y] ∧ H l = some (.lst xs) ∧ xs.length < sizeLine ∧ 0 ≤ i ∧ i ≤ xs.length ∧ Q .non (upd H l (.lst (xs.take i.toNat ++ y :: xs.drop i.toNat)))
theorem mt_insert : MtM X "list.insert" rInsert := by
  intro pins s σ H x xs v us Q I rx r h
  obtain ⟨l, ys, i, y, rfl, rfl, hH, hz, h0, h1, q⟩ := h
  cases rx
  obtain ⟨w1, w2, rfl, r1, r2⟩ := vals2 r
  obtain ⟨t, rfl⟩ := r1
  obtain ⟨z, its, n, rv, hl, e⟩ := I.lstM hH
  have hlen := rv.length
  refine call_meets PySem.F.slot_list_insert ⟨_, e, rfl⟩ PySem.F.entry_list_insert (PySem.F.args_list_insert_3 _ _ _)
    (AutoSeq1.list_insert_list_int_val_1 l its.toArray n i t w2 (by
      have : Builtin.List.listFitsIndex i = true := fitsIndex_both (by omega) (by have := line63; omega)
      rw [this]; decide) (by rw [List.size_toArray]; omega)) ⟨e, ?_⟩
  refine ⟨.non, _, I.lset (t' := s.toks) (its' := its.take i.toNat ++ w2 :: its.drop i.toNat) hH e ?_ (Vals.append (rv.take _) (.cons r2 (rv.drop _))) ?_, rfl, q⟩
  · have hi : ¬ i < 0 := by omega
    have hm : min i.toNat its.toArray.size = i.toNat := by rw [List.size_toArray]; omega
    show (its.toArray.extract 0 (if i < 0 then _ else min i.toNat its.toArray.size)).push w2 ++ its.toArray.extract (if i < 0 then _ else min i.toNat its.toArray.size) = _
    rw [if_neg hi, hm]
    apply Array.toList_inj.mp
    simp [List.take_of_length_le]
  · rw [List.length_append, List.length_take, List.length_cons, List.length_drop]
    omega
end
end L2
namespace L2
open PySem PySem.Spec PyProof.Rows
section
variable {prog : Program} {w : World} {A : Around} {E : Value → Shared → Prop} {s : Shared}
theorem collect_seq {l : Addr} {vs : List Value} {T : String} {o : Obj} {n : Nat} {Q : List Value → Shared → Prop} (ho : s.heap.get? l = some o) (hc : o.cls = .type T) (hT : T = "list" ∨ T = "tuple") (hd : o.data = .seq vs.toArray n)
    (h : Q vs { s with heap := (s.heap.push (seqObj "list" #[] 0)).update s.heap.objs.size (Obj.mapSeq (· ++ vs.toArray)) }) (hsz : vs.length ≤ sizeLine) :
    wpAny (model prog w) A (collect (.ref l)) Q E s := by
  unfold collect
  refine wpAny_bind (wpAny_runValue (codeAny_builtin entry_proto_collect' ?_))
  show wpAny _ _ (do again (.builtin "list.__iadd__" ⟨[← newList [], .ref l], []⟩)) _ _ s
  refine wpAny_bind (wpAny_newList (wpAny_pure ⟨Code.quiet_builtin _ (by decide +kernel), codeAny_builtin entry_list_iadd' ?_⟩))
  show wpAny _ _ (Builtin.List.listExtendWith (.ref s.heap.objs.size) (.ref l) (.ref s.heap.objs.size)) _ _ { s with heap := s.heap.push (seqObj "list" #[] 0) }
  unfold Builtin.List.listExtendWith
  have ho' : (s.heap.push (seqObj "list" #[] 0)).get? l = some o := Heap.get?_push_of_some _ ho
  refine wpAny_bind (wpAny_typeOf (T := T) ⟨o, ho', hc⟩ ?_)
  have ht : ((Builtin.List.listSameRef (.ref s.heap.objs.size) (.ref l) || Value.type T == Value.type "list" || Value.type T == Value.type "tuple")) = true := by
    rcases hT with rfl | rfl
    · rw [show (Value.type "list" == Value.type "list") = true by rfl]; simp
    · rw [show (Value.type "tuple" == Value.type "tuple") = true by rfl]; simp
  rw [if_pos ht]
  refine wpAny_bind (listItems_at ho' hd ?_)
  refine wpAny_bind (listItems_at (xs := #[]) (n := 0) (Heap.get?_push_size _ rfl) rfl ?_)
  rw [if_neg (by simp)]
  refine wpAny_bind (listUpdate_at (xs := #[]) (n := 0) (Heap.get?_push_size _ rfl) rfl ?_ (Nat.zero_le _) (by show (#[] ++ vs.toArray).size ≤ sizeLine + 1; simp only [Array.size_append, List.size_toArray, List.length_nil]; omega))
  refine wpAny_pure ?_
  show wpAny (model prog w) A (do
      let o ← load s.heap.objs.size
      match o.data with
      | .seq xs _ => pure xs.toList
      | _ => unsupported "internal:collect") Q E { s with heap := (s.heap.push (seqObj "list" #[] 0)).update s.heap.objs.size (Obj.mapSeq (· ++ vs.toArray)) }
  refine wpAny_bind (wpAny_load (get?_update_seq (Heap.get?_push_size _ rfl) _) ?_)
  show wpAny _ _ (pure ((#[] : Array Value) ++ vs.toArray).toList) Q E _
  rw [show ((#[] : Array Value) ++ vs.toArray).toList = vs by simp]
  exact wpAny_pure h
theorem sorted_seq {l : Addr} {vs : List Value} {ns : List Int} {T : String} {o : Obj} {n : Nat} {Q : Value → Shared → Prop} (ho : s.heap.get? l = some o) (hc : o.cls = .type T) (hT : T = "list" ∨ T = "tuple") (hd : o.data = .seq vs.toArray n) (hI : IntsAre vs ns) (h64 : vs.length < 64)
    (h : ∀ (out : Array Value) (ns' : List Int), IntsAre out.toList ns' → ns'.Perm ns → ns'.Pairwise (· ≤ ·) → Q (.ref (s.heap.objs.size + 1)) { s with heap := sortedAll s.heap vs out }) :
    wpAny (model prog w) A (call (.builtin "sorted") [.ref l]) Q E s := by
  refine Calls.call_function_entry kind_sorted plain_sorted entry_sorted (args_sorted1 _) ?_
  unfold Builtin.«sorted»
  refine wpAny_bind (m := checkCount "sorted" 1 1 _) (wpAny_pure ?_)
  refine wpAny_bind (collect_seq ho hc hT hd ?_ (by rw [sizeLine_eq]; omega))
  refine wpAny_bind (wpAny_newList ?_)
  have hsz : ((s.heap.push (seqObj "list" #[] 0)).update s.heap.objs.size (Obj.mapSeq (· ++ vs.toArray))).objs.size = s.heap.objs.size + 1 := by
    rw [Heap.size_update, size_push']
  have hoL : (((s.heap.push (seqObj "list" #[] 0)).update s.heap.objs.size (Obj.mapSeq (· ++ vs.toArray))).push (seqObj "list" vs.toArray 0)).get? (s.heap.objs.size + 1) = some (seqObj "list" vs.toArray 0) := by
    rw [← hsz]; exact Heap.get?_push_size _ rfl
  show wpAny _ _ _ _ _ { s with heap := ((s.heap.push (seqObj "list" #[] 0)).update s.heap.objs.size (Obj.mapSeq (· ++ vs.toArray))).push (seqObj "list" vs.toArray 0) }
  rw [hsz]
  refine wpAny_bind (wpAny_holding (wpAny_call_entry slot_list_sort ⟨_, hoL, rfl⟩ entry_list_sort (list_sort_tree hoL hI h64 fun out ns' a1 a2 a3 => ⟨_, rfl, ?_⟩) (args_list_sort _)))
  exact wpAny_pure ⟨_, rfl, h out ns' a1 a2 a3⟩
end
section
variable {X : Cx}
theorem vals_of_ints : ∀ {us : List Value} {ns : List Int}, IntsAre us ns → Vals (ns.map V.int) us
  | _, _, h => vals_ints h
/-- sorted(xs) of ints, fewer than 64 -/
def rSorted (xs : List V) (P : Addr → List Int → Prop) (H : Hp) (Q : VK) : Prop := ∃ (p : Addr) (ns : List Int), xs = [.ref p] ∧ P p ns ∧ ns.length < 64 ∧ ∀ (l : Addr) (ms : List Int), H l = none → ms.Perm ns → ms.Pairwise (· ≤ ·) → Q (.ref l) (upd H l (.lst (ms.map V.int)))
theorem sorted_done {pins : List (Addr × Obj)} {s : Shared} {σ : St} {H : Hp} {Q : VK} {vs : List Value} {ns : List Int} {out : Array Value} {ns' : List Int} (I : Inv X pins σ H s) (a1 : IntsAre out.toList ns') (a2 : ns'.Perm ns) (a3 : ns'.Pairwise (· ≤ ·)) (h64 : ns.length < 64)
    (q : ∀ (l : Addr) (ms : List Int), H l = none → ms.Perm ns → ms.Pairwise (· ≤ ·) → Q (.ref l) (upd H l (.lst (ms.map V.int)))) :
    EP X pins σ Q (.ref (s.heap.objs.size + 1)) { s with heap := sortedAll s.heap vs out } := by
  obtain ⟨e, he⟩ := sortedAll_at s.heap vs out
  have hf : H (s.heap.objs.size + 1) = none := I.hok.fresh (Nat.le_succ _)
  refine ⟨.ref (s.heap.objs.size + 1), _, I.laid (t' := s.toks) (fun _ _ => sortedAll_old) (Nat.le_succ _) (show ObjOk X.prog X.w _ _ _ (.lst (ns'.map V.int)) from ⟨?_, out.toList, e, vals_of_ints a1, ?_⟩), rfl, q _ ns' hf a2 a3⟩
  · rw [List.length_map, a2.length_eq, sizeLine_eq]; omega
  · simpa [seqObj] using he
theorem call_sortedL : CallR X (.builtin "sorted") (fun xs H Q => rSorted xs (fun p ns => SqL X.K H p (ns.map V.int)) H Q) := by
  intro pins s σ H xs us Q I r h
  obtain ⟨p, ns, rfl, hp, h64, q⟩ := h
  obtain ⟨u, rfl, ru⟩ := vals1 r
  cases ru
  obtain ⟨its, rv, ⟨o, n, ho, hc, _, hd⟩, hz⟩ := I.list hp
  have hl := rv.length
  rw [List.length_map] at hl
  exact sorted_seq ho hc (.inl rfl) hd (intsAre_of rv) (by omega) fun out ns' a1 a2 a3 => sorted_done I a1 a2 a3 h64 q
/-! ### set(xs) of ints, and its len -/
theorem firstMet_nd (ns : List Int) (hn : ns.Nodup) : ∀ i, i ≤ ns.length → firstMet (fun i => ns.getD i 0) i = ns.take i
  | 0, _ => by rw [firstMet_zero]; rfl
  | i + 1, h => by
    have ih := firstMet_nd ns hn i (by omega)
    have hi : i < ns.length := by omega
    rw [firstMet_succ, ih, List.take_add_one, List.getElem?_eq_getElem hi]
    unfold step_dedup
    have hd : ns.getD i 0 = ns[i] := by simp [List.getD, List.getElem?_eq_getElem hi]
    rw [hd]
    have : ((ns.take i).any fun x => x == ns[i]) = false := by
      rw [List.any_eq_false]
      intro x hx
      obtain ⟨j, hj, e⟩ := List.mem_take_iff_getElem.mp hx
      intro q
      have q : x = ns[i] := by simpa using q
      have hj' : j < i := by omega
      have := List.pairwise_iff_getElem.mp hn j i (by omega) hi hj'
      exact this (by rw [e, q])
    rw [this]
    simp
theorem call_setL (hc : X.calm = true) : CallR X (.type "set") (fun xs H Q => ∃ (p : Addr) (ns : List Int), xs = [.ref p] ∧ SqL X.K H p (ns.map V.int) ∧ ns.length < 1000 ∧ ∀ (l : Addr) (S : Int → Bool), H l = none → Q (.ref l) (upd H l (.set S (firstMet (fun i => ns.getD i 0) ns.length).length))) := by
  intro pins s σ H xs us Q I r h
  obtain ⟨p, ns, rfl, hp, h64, q⟩ := h
  obtain ⟨u, rfl, ru⟩ := vals1 r
  cases ru
  obtain ⟨its, rv, ⟨o, n, ho, hcl, _, hd⟩, hz⟩ := I.list hp
  have hl := rv.length
  rw [List.length_map] at hl
  have hL : s.heap.IsList p its.toArray := ⟨o, ho, hcl, n, hd⟩
  refine call_set_list (items := its.toArray) (ns := ns) (I.ok.hd hc) hL (by simpa using intsAre_of rv) (by rw [List.size_toArray]; unfold scanBound; omega) fun h' tk hS hk => ?_
  have esz : its.toArray.size = ns.length := by rw [List.size_toArray]; exact hl.symm
  rw [esz] at hS
  refine ⟨.ref s.heap.objs.size, _, I.laid (t' := tk) (fun b ob e => hk b ob (Heap.lt_size e) e) (Nat.le_refl _) (show ObjOk X.prog X.w _ h' s.heap.objs.size (.set _ _) from hS), rfl, q _ _ (I.hok.fresh (Nat.le_refl _))⟩
theorem call_lenSet : CallR X (.builtin "len") (fun xs H Q => ∃ p S n, xs = [.ref p] ∧ H p = some (.set S n) ∧ Q (.int n) H) := by
  intro pins s σ H xs us Q I r h
  obtain ⟨p, S, n, rfl, hp, q⟩ := h
  obtain ⟨u, rfl, ru⟩ := vals1 r
  cases ru
  obtain ⟨o, es, ep, t, ho, hex, hd, _, _, hb, hf, hn⟩ : s.heap.SetOf (intKind X.prog X.w) p S n := I.hok p _ hp
  refine PySem.call_len_set ho hex hd hf (by unfold scanBound at hb; omega) ?_
  rw [hn]
  exact ⟨.int n, H, I.tok _, ⟨_, rfl⟩, q⟩
/-! ### min, max, sum of a list of ints -/
end
end L2
namespace WR
open PySem L2
/-! ### data of the program -/
def roadD (r : Road) : Dt := .tup [.v (.int r.1), .v (.int r.2.1), .v (.int r.2.2)]
def pairD (p : Int × Int) : Dt := .tup [.v (.int p.1), .v (.int p.2)]
def intD (i : Int) : Dt := .v (.int i)
/-- a list of roads stands at p -/
def RoadsAt (H : Hp) (p : Addr) (rs : List Road) : Prop := ∃ xs, H p = some (.lst xs) ∧ Reps H xs (rs.map roadD)
def PairsAt (H : Hp) (p : Addr) (ps : List (Int × Int)) : Prop := ∃ xs, H p = some (.lst xs) ∧ Reps H xs (ps.map pairD)
/-- a dict: village, (the one next to it, how far) -/
def FoundAt (H : Hp) (q : Addr) (tab : List Ent) : Prop := ∃ kvs, H q = some (.dK kvs) ∧ Paired (fun (kv : Key × V) (e : Ent) => kv.1 = Sum.inl e.1 ∧ Rep H kv.2 (pairD e.2)) kvs tab
theorem RoadsAt.keep {H H' : Hp} {p : Addr} {rs : List Road} (k : Same H H') (h : RoadsAt H p rs) : RoadsAt H' p rs := let ⟨xs, h1, h2⟩ := h; ⟨xs, k _ _ h1, h2.keep k⟩
theorem PairsAt.keep {H H' : Hp} {p : Addr} {rs : List (Int × Int)} (k : Same H H') (h : PairsAt H p rs) : PairsAt H' p rs := let ⟨xs, h1, h2⟩ := h; ⟨xs, k _ _ h1, h2.keep k⟩
theorem FoundAt.keep {H H' : Hp} {p : Addr} {rs : List Ent} (k : Same H H') (h : FoundAt H p rs) : FoundAt H' p rs := let ⟨xs, h1, h2⟩ := h; ⟨xs, k _ _ h1, Paired.mapP h2 fun _ _ z => ⟨z.1, z.2.keep k⟩⟩
theorem frozs_roads : ∀ rs : List Road, Frozs (rs.map roadD)
  | [] => by unfold List.map Frozs; trivial
  | r :: t => by
    rw [List.map_cons]
    unfold Frozs
    exact ⟨by unfold roadD Froz Frozs Frozs Frozs Frozs Froz; simp, frozs_roads t⟩
/-- a road's tuple -/
theorem roadD_at {H : Hp} {x : V} {r : Road} (h : Rep H x (roadD r)) : ∃ a, x = .ref a ∧ H a = some (.tup [.int r.1, .int r.2.1, .int r.2.2]) := by
  unfold roadD Rep at h
  obtain ⟨a, xs, rfl, ha, hr⟩ := h
  unfold Reps at hr
  obtain ⟨x1, r1, rfl, h1, hr⟩ := hr
  unfold Reps at hr
  obtain ⟨x2, r2, rfl, h2, hr⟩ := hr
  unfold Reps at hr
  obtain ⟨x3, r3, rfl, h3, hr⟩ := hr
  unfold Reps at hr
  subst hr
  unfold Rep at h1 h2 h3
  rw [h1.1, h2.1, h3.1] at ha
  exact ⟨a, rfl, ha⟩
theorem pairD_at {H : Hp} {x : V} {r : Int × Int} (h : Rep H x (pairD r)) : ∃ a, x = .ref a ∧ H a = some (.tup [.int r.1, .int r.2]) := by
  unfold pairD Rep at h
  obtain ⟨a, xs, rfl, ha, hr⟩ := h
  unfold Reps at hr
  obtain ⟨x1, r1, rfl, h1, hr⟩ := hr
  unfold Reps at hr
  obtain ⟨x2, r2, rfl, h2, hr⟩ := hr
  unfold Reps at hr
  subst hr
  unfold Rep at h1 h2
  rw [h1.1, h2.1] at ha
  exact ⟨a, rfl, ha⟩
theorem roadD_mk {H : Hp} {a : Addr} {x y l : Int} (h : H a = some (.tup [.int x, .int y, .int l])) : Rep H (.ref a) (roadD (x, y, l)) := by
  unfold roadD Rep
  exact ⟨a, _, rfl, h, .cons (.int _) (.cons (.int _) (.cons (.int _) .nil))⟩
theorem pairD_mk {H : Hp} {a : Addr} {x y : Int} (h : H a = some (.tup [.int x, .int y])) : Rep H (.ref a) (pairD (x, y)) := by
  unfold pairD Rep
  exact ⟨a, _, rfl, h, .cons (.int _) (.cons (.int _) .nil)⟩
theorem same_new {H : Hp} {p : Addr} {o : HO} (h : H p = none) : Same H (upd H p o) := fun b u e => by rw [upd_ne (ne_of_none e h)]; exact e
theorem RoadsAt.get {H : Hp} {p : Addr} {rs : List Road} {xs : List V} (h1 : H p = some (.lst xs)) (h : Reps H xs (rs.map roadD)) {i : Nat} {x : V} (hx : xs[i]? = some x) : ∃ r a, rs[i]? = some r ∧ x = .ref a ∧ H a = some (.tup [.int r.1, .int r.2.1, .int r.2.2]) := by
  obtain ⟨d, hd, hr⟩ := h.at hx
  rw [List.getElem?_map] at hd
  cases q : rs[i]? with
  | none => rw [q] at hd; cases hd
  | some r =>
    rw [q] at hd
    cases hd
    obtain ⟨a, e, ha⟩ := roadD_at hr
    exact ⟨r, a, rfl, e, ha⟩
end WR
namespace L2
open PySem PySem.Spec PyProof.Rows
/-- a comprehension over a list that it leaves as it is; Pv by the turn, the block's names, the items so far, the heap -/
theorem comp_list {K : PySem.W.Frag} {a acc : Addr} {xs : List V} {n : Nat} {fr : List (Nat × Nat)} {g : TG} {tf : TT} {te : TE} {Qa : Hp → Prop} {σ : St} {H1 : Hp} (Pv : Nat → St → List V → Hp → Prop) (h0 : Pv 0 (startC n fr σ) [] (upd H1 acc (.lst [])))
    (hl : ∀ i τ ys H, i ≤ xs.length → Pv i τ ys H → SqL K H a xs ∧ H acc = some (.lst ys))
    (hs : ∀ i x τ ys H (R : St → List V → Hp → Prop), xs[i]? = some x → Pv i τ ys H → (∀ τ' ys' H', Pv (i + 1) τ' ys' H' → R τ' ys' H') → g x τ H fun τ4 H4 => tf τ4 H4 fun b H5 =>
      if b = true then te τ4 H5 fun v H6 => H6 acc = some (.lst ys) ∧ ys.length < sizeLine ∧ R τ4 (ys ++ [v]) (upd H6 acc (.lst (ys ++ [v]))) else R τ4 ys H5)
    (hd : ∀ τ ys H, Pv xs.length τ ys H → Qa H) :
    ∃ W : Nat → Nat → St → List V → Hp → Prop, (∃ m, W 0 m (startC n fr σ) [] (upd H1 acc (.lst []))) ∧ ∀ i m τ ys H2, W i m τ ys H2 →
      H2 acc = some (.lst ys) ∧ (((Itl K a).stop i H2 ∧ Qa H2) ∨ ((Itl K a).go i H2 ∧ ∀ x H3, (Itl K a).yld i H2 x H3 → g x τ H3 fun τ4 H4 => tf τ4 H4 fun b H5 =>
        if b = true then te τ4 H5 fun v H6 => H6 acc = some (.lst ys) ∧ ys.length < sizeLine ∧ ∃ m', m' < m ∧ W (i + 1) m' τ4 (ys ++ [v]) (upd H6 acc (.lst (ys ++ [v])))
        else ∃ m', m' < m ∧ W (i + 1) m' τ4 ys H5)) := by
  refine ⟨fun i m τ ys H => m = xs.length - i ∧ i ≤ xs.length ∧ Pv i τ ys H, ⟨xs.length, by simp, Nat.zero_le _, h0⟩, ?_⟩
  rintro i m τ ys H2 ⟨rfl, hi, p⟩
  obtain ⟨q, hacc⟩ := hl i τ ys H2 hi p
  refine ⟨hacc, ?_⟩
  by_cases hlt : i < xs.length
  · refine .inr ⟨⟨xs, xs[i], q, by simp [hlt]⟩, fun x H' y => ?_⟩
    obtain ⟨e, y⟩ := y
    subst e
    exact hs i x τ ys _ (fun τ' ys' H' => ∃ m', m' < xs.length - i ∧ m' = xs.length - (i + 1) ∧ i + 1 ≤ xs.length ∧ Pv (i + 1) τ' ys' H') (y xs q) p fun τ' ys' H' p' => ⟨xs.length - (i + 1), by omega, rfl, hlt, p'⟩
  · have e : i = xs.length := by omega
    subst e
    exact .inl ⟨⟨xs, q, Nat.le_refl _⟩, hd τ ys H2 p⟩
theorem comp_range {acc : Addr} {lo : Int} {k n : Nat} {fr : List (Nat × Nat)} {g : TG} {tf : TT} {te : TE} {Qa : Hp → Prop} {σ : St} {H1 : Hp} (Pv : Nat → St → List V → Hp → Prop) (h0 : Pv 0 (startC n fr σ) [] (upd H1 acc (.lst [])))
    (hl : ∀ i τ ys H, i ≤ k → Pv i τ ys H → H acc = some (.lst ys))
    (hs : ∀ i τ ys H (R : St → List V → Hp → Prop), i < k → Pv i τ ys H → (∀ τ' ys' H', Pv (i + 1) τ' ys' H' → R τ' ys' H') → g (.int (lo + i)) τ H fun τ4 H4 => tf τ4 H4 fun b H5 =>
      if b = true then te τ4 H5 fun v H6 => H6 acc = some (.lst ys) ∧ ys.length < sizeLine ∧ R τ4 (ys ++ [v]) (upd H6 acc (.lst (ys ++ [v]))) else R τ4 ys H5)
    (hd : ∀ τ ys H, Pv k τ ys H → Qa H) :
    ∃ W : Nat → Nat → St → List V → Hp → Prop, (∃ m, W 0 m (startC n fr σ) [] (upd H1 acc (.lst []))) ∧ ∀ i m τ ys H2, W i m τ ys H2 →
      H2 acc = some (.lst ys) ∧ (((Itr lo k).stop i H2 ∧ Qa H2) ∨ ((Itr lo k).go i H2 ∧ ∀ x H3, (Itr lo k).yld i H2 x H3 → g x τ H3 fun τ4 H4 => tf τ4 H4 fun b H5 =>
        if b = true then te τ4 H5 fun v H6 => H6 acc = some (.lst ys) ∧ ys.length < sizeLine ∧ ∃ m', m' < m ∧ W (i + 1) m' τ4 (ys ++ [v]) (upd H6 acc (.lst (ys ++ [v])))
        else ∃ m', m' < m ∧ W (i + 1) m' τ4 ys H5)) := by
  refine ⟨fun i m τ ys H => m = k - i ∧ i ≤ k ∧ Pv i τ ys H, ⟨k, by simp, Nat.zero_le _, h0⟩, ?_⟩
  rintro i m τ ys H2 ⟨rfl, hi, p⟩
  refine ⟨hl i τ ys H2 hi p, ?_⟩
  by_cases hlt : i < k
  · refine .inr ⟨hlt, fun x H' y => ?_⟩
    obtain ⟨e, e2⟩ := y
    subst e e2
    exact hs i τ ys _ (fun τ' ys' H' => ∃ m', m' < k - i ∧ m' = k - (i + 1) ∧ i + 1 ≤ k ∧ Pv (i + 1) τ' ys' H') hlt p fun τ' ys' H' p' => ⟨k - (i + 1), by omega, rfl, hlt, p'⟩
  · have e : i = k := by omega
    subst e
    exact .inl ⟨Nat.le_refl _, hd τ ys H2 p⟩
/-- a statement by what holds ahead and behind: its ways meet -/
theorem ps_join {X : Cx} {st : Stmt} {t0 t1 : TS} (h : PS X st t0) (Pre : St → Hp → Prop) (R : St → Hp → St → Hp → Prop) (hp : ∀ σ H, Pre σ H → t0 { nx := R σ H, rt := fun _ _ => False } σ H)
    (ht : t1 = fun D σ H => Pre σ H ∧ ∀ σ' H', R σ H σ' H' → D.nx σ' H' := by rfl) : PS X st t1 := by
  subst ht
  intro pins s σ H D I ⟨p, k⟩
  refine thn (h pins s σ H _ I (hp σ H p)) fun f s1 q => ?_
  cases f with
  | next => obtain ⟨σ', H', I', q⟩ := q; exact ⟨σ', H', I', k σ' H' q⟩
  | ret v => obtain ⟨_, _, _, _, _, q⟩ := q; exact q.elim
  | brk => obtain ⟨_, _, _, q⟩ := q; exact q.elim
  | cont => obtain ⟨_, _, _, q⟩ := q; exact q.elim
theorem noif {τ : St} {H : Hp} {A B : Hp → Prop} (h : A H) : tNoIf τ H (fun b H5 => if b = true then A H5 else B H5) := by
  show if true = true then A H else B H
  rw [if_pos rfl]
  exact h
theorem noifN {i : Nat} {x : V} {τ : St} {H : Hp} {A B : St → Hp → Prop} (h : A (τ.set i (some x)) H) : gName i x τ H (fun τ4 H4 => tNoIf τ4 H4 fun b H5 => if b = true then A τ4 H5 else B τ4 H5) := by
  show if true = true then A (τ.set i (some x)) H else B (τ.set i (some x)) H
  rw [if_pos rfl]
  exact h
end L2
namespace L2
open PySem PySem.Spec PyProof.Rows
/-! ### rules with the module's part named (in a comprehension's block it may not hang on the block) -/
section
variable {X : Cx} {K : PySem.W.Frag}
theorem ix_listK (h : X.K = K) : IxR X (rIxL K) := by subst h; exact ix_list
theorem ix_tupK (h : X.K = K) : IxR X (rIxT K) := by subst h; exact ix_tup
theorem op_in_seqK (h : X.K = K) : OpR X (compareOp .In) (rIn K false) := by subst h; exact op_in_seq
theorem pg_tupK {es : List Expr} {k : Nat} {t : TGs} {n : Nat} {pos : Pos} (h : X.K = K) (hc : X.calm = true) (hg : PGs X es t) (hn : (assignEach es X.env).length = n) (hst : (assignEach es X.env).findIdx? (·.1) = none := by rfl) : PG X (.Tuple es k pos) (gTup K n t) := by subst h; exact pg_tup hc hg hn hst
end
end L2
namespace L2
open PySem PySem.Spec PyProof.Rows
section
variable {X : Cx} {pins : List (Addr × Obj)} {σ : St} {H : Hp} {s : Shared}
end
/-! ### enumerate(xs) -/
def Ite (K : PySem.W.Frag) (a : Addr) : It :=
  ⟨fun i H => ∃ xs x, SqL K H a xs ∧ xs[i]? = some x, fun i H x H' => ∃ p y, H p = none ∧ x = .ref p ∧ (∀ xs, SqL K H a xs → xs[i]? = some y) ∧ H' = upd H p (.tup [.int i, y]), fun i H => ∃ xs, SqL K H a xs ∧ xs.length ≤ i⟩
def iEnum (K : PySem.W.Frag) (ta : TA) : TI := fun σ H R => ta σ H fun vs H1 => ∃ a xs, vs = [.ref a] ∧ SqL K H1 a xs ∧ R (Ite K a) H1
/-! ### zip(xs, ys) -/
def Itz (K : PySem.W.Frag) (a b : Addr) : It :=
  ⟨fun i H => ∃ xs ys x y, SqL K H a xs ∧ SqL K H b ys ∧ xs[i]? = some x ∧ ys[i]? = some y, fun i H x H' => ∃ p y z, H p = none ∧ x = .ref p ∧ (∀ xs, SqL K H a xs → xs[i]? = some y) ∧ (∀ ys, SqL K H b ys → ys[i]? = some z) ∧ H' = upd H p (.tup [y, z]), fun i H => ∃ xs ys, SqL K H a xs ∧ SqL K H b ys ∧ (xs.length ≤ i ∨ ys.length ≤ i)⟩
def iZip (K : PySem.W.Frag) (ta : TA) : TI := fun σ H R => ta σ H fun vs H1 => ∃ a b xs ys, vs = [.ref a, .ref b] ∧ SqL K H1 a xs ∧ SqL K H1 b ys ∧ R (Itz K a b) H1
end L2
namespace L2
open PySem PySem.Spec PyProof.Rows
def maxI (ns : List Int) : Int := ns.max?.getD 0
def minI (ns : List Int) : Int := ns.min?.getD 0
section
variable {X : Cx}
end
end L2
namespace L2
end L2
namespace L2
open PySem PySem.Spec PyProof.Rows
/-! ### a comprehension over enumerate, over zip -/
/-! ### a comprehension within a comprehension -/
def relab (sc sc0 : Scope) : Scope := { sc with names := sc.names.map fun (n, k) => if (k == NameKind.free && sc0.kind == .function && sc0.names.lookup n == some .cell) then (n, NameKind.cell) else (n, k) }
theorem atI_int {xs : List V} {k : Int} {j : Nat} {x : V} (e : k = j) (h : xs[j]? = some x) : atI xs k = some x := by subst e; exact atI_nat h
end L2
namespace L2
open PySem PySem.Spec PyProof.Rows
/-! ### a comprehension whose block has cells of its own (a comprehension within it reads its names) -/
abbrev cxCompC (X : Cx) (N : List Str) (sc : Scope) (cl : List (Str × Addr)) (C : Addr) (s₀ : Shared) (H₀ : Hp) (ex : List Addr) (pn : List (Addr × Obj)) : Cx where
  prog := X.prog
  w := X.w
  K := X.K
  mg := X.mg
  base := X.base
  A := X.A
  N := N
  s₀ := s₀
  H₀ := H₀
  env := compEnvC sc (cellsFrom (C + 1) sc.names cl) C X.env
  outer := X.stack
  stack := X.stack
  ex := ex
  fn := fun x => sc.names.any fun p => p.1 == x && p.2 == NameKind.cell
  calm := X.calm
  pn := pn
  xe := X.xe
structure CompOkC (X : Cx) (N : List Str) (sc : Scope) (cl : List (Str × Addr)) (fr : List (Nat × Nat)) : Prop where
  clos : closureFor sc X.env = pure cl
  kind : sc.kind = .function
  names : ∀ x ∈ sc.names, x.2 = .local → sc.names.lookup x.1 = some .local
  sub : ∀ x c, cl.lookup x = some c → X.env.cells.lookup x = some c
  subm : ∀ x c, (x, c) ∈ cl → X.env.cells.lookup x = some c
  has : ∀ x, ((relabel sc X.env).names.lookup x = some .cell ∨ (relabel sc X.env).names.lookup x = some .free) → (∃ c, cl.lookup x = some c) ∨ (x, NameKind.cell) ∈ sc.names
  frees : ∀ p ∈ fr, ∃ x, N[p.1]? = some x ∧ X.N[p.2]? = some x ∧ (X.env.scope.names.lookup x = some .cell ∨ X.env.scope.names.lookup x = some .free) ∧ ((relabel sc X.env).names.lookup x = some .cell ∨ (relabel sc X.env).names.lookup x = some .free) ∧ (x, NameKind.cell) ∉ sc.names ∧ ∃ c, cl.lookup x = some c
section
variable {M : Model} {A : Around} {E : Value → Shared → Prop} {s : Shared}
end
section
variable {X : Cx} {N : List Str} {sc : Scope} {cl : List (Str × Addr)} {fr : List (Nat × Nat)} {pins : List (Addr × Obj)} {σ : St} {H : Hp} {s : Shared}
end

def compChkC (N0 N : List Str) (sc0 sc : Scope) (fr : List (Nat × Nat)) : Bool :=
  sc.kind == .function && sc0.kind == .function && sc.names.all (fun x => !(x.2 == .local) || sc.names.lookup x.1 == some .local) &&
  sc.names.all (fun x => !(x.2 == .free) || (sc0.names.lookup x.1 == some .cell || sc0.names.lookup x.1 == some .free)) &&
  fr.all (fun p => match N[p.1]? with | some x => N0[p.2]? == some x && (sc0.names.lookup x == some .cell || sc0.names.lookup x == some .free) && sc.names.lookup x == some .free && !(sc.names.any fun q => q.1 == x && q.2 == .cell) | none => false)
end L2
namespace L2
open PySem PySem.Spec PyProof.Rows
/-! ### an error in flight: its class, no context; all of B stands; fl: the frame that has it -/
def FlyX (B : Heap) (l : List Env) (e : Addr) (cls : Value) (dx : Option Addr) (fl : Value) (h : Heap) : Prop := B.StaysIn h ∧ B.get? e = none ∧ h.FunFrames B l ∧ ∃ oe vs T oT ts, h.get? e = some oe ∧ oe.cls = cls ∧ oe.dict = dx ∧ oe.data = .fields vs ∧ vs[2]? = some .none ∧
  vs[1]? = some (.ref T) ∧ B.get? T = none ∧ T ≠ e ∧ h.get? T = some oT ∧ oT.data = .fields ts ∧ ts[3]? = some fl
section
variable {M : Model} {A : Around} {E : Value → Shared → Prop} {s : Shared} {B : Heap} {env : Env} {outer : List Env} {L e : Addr} {Q : Unit → Shared → Prop}
end
end L2
namespace L2
open PySem PySem.Spec PyProof.Rows
/-! ### exceptions that leave a def -/
theorem ObjOk.there {P : Program} {w : World} {H : Hp} {h : Heap} {a : Addr} {o : HO} (x : ObjOk P w H h a o) : ∃ u, h.get? a = some u := by
  cases o with
  | lst xs => obtain ⟨_, _, _, _, e⟩ := x; exact ⟨_, e⟩
  | tup xs => obtain ⟨_, _, _, o, e, _⟩ := x; exact ⟨_, e⟩
  | dK kvs => obtain ⟨_, _, _, _, o, _, _, e, _⟩ := x; exact ⟨_, e⟩
  | dT kvs => obtain ⟨_, _, _, _, o, _, _, e, _⟩ := x; exact ⟨_, e⟩
  | set S n => obtain ⟨o, _, _, _, e, _⟩ := x; exact ⟨_, e⟩
  | ins C dx fs => obtain ⟨_, _, _, e, _⟩ := x; exact ⟨_, e⟩
  | own y => obtain ⟨_, e⟩ := x; exact ⟨_, e⟩
  | xd fs => obtain ⟨_, ⟨_, _, _, e, _⟩, _⟩ := x; exact ⟨_, e⟩
  | rng lo hi => obtain ⟨_, _, _, e⟩ := x; exact ⟨_, e⟩
  | frz ob u => obtain ⟨e, _⟩ := x; exact ⟨_, e⟩
  | tbl ps => exact ⟨_, (show h.get? a = some _ from x)⟩
  | met f y => exact ⟨_, (show h.get? a = some _ from x)⟩
  | ext φ => obtain ⟨_, ⟨_, e⟩, _⟩ := x; exact ⟨_, e⟩
theorem HOk.none {P : Program} {w : World} {H : Hp} {h : Heap} {a : Addr} (x : HOk P w H h) (e : h.get? a = Option.none) : H a = Option.none := by
  cases q : H a with
  | none => rfl
  | some u => obtain ⟨o, z⟩ := (x a u q).there; rw [e] at z; cases z
/-- what stands behind an exception: all but the frames stands in B -/
structure UnB (fs : List Addr) (H H' : Hp) (h B h' : Heap) : Prop where
  keep : ∀ b o, h.get? b = some o → H b = none → b ∉ fs → B.get? b = some o
  slot : ∀ b o, h.get? b = some o → H b = none → b ∈ fs → ∃ sl, h'.get? b = some { o with slots := sl }
  free : ∀ b o, h.get? b = some o → H b = none → H' b = none
  there : ∀ b o, h.get? b = some o → b ∉ fs → ∃ o', B.get? b = some o'
  tfs : ∀ b ∈ fs, ∃ o', h'.get? b = some o'
  tups : ∀ b xs, H b = some (.tup xs) → H' b = some (.tup xs)
  frzs : ∀ b o u, H b = some (.frz o u) → H' b = some (.frz o u)
  tbls : ∀ b ps, H b = some (.tbl ps) → ∃ more, H' b = some (.tbl (ps ++ more))
/-- an exception of a class, in flight -/
def CXE (P : Program) (w : World) (base : Heap) : CXT := fun outer H s E e s' => ∃ (a : Addr) (cls : Value) (dx : Option Addr) (H' : Hp) (B : Heap), e = .ref a ∧ s'.os = s.os ∧ AllBare s'.gens ∧ FlyX B outer a cls dx .none s'.heap ∧
  base.StaysIn B ∧ HOk P w H' B ∧ UnB (frs outer) H H' s.heap B s'.heap ∧ H' a = none ∧ E cls dx H'
section
variable {P : Program} {w : World} {K : PySem.W.Frag} {mg : Str → Option Value} {base : Heap}
section
variable {N : List Str} {qual : Str} {scope : Scope} {f : Addr} {cd : Value} {A : Around} {outer : List Env} {s₀ : Shared} {H₀ : Hp} {E : XK}
/-- what a raise must show: an exception that is made here goes as it is wished -/
def Raises (X : Cx) (E : XK) : Prop := ∀ (pins : List (Addr × Obj)) (σ : St) (H : Hp) (s : Shared) (a : Addr) (cls : Value) (vs : List Value) (h' : Heap), Inv X pins σ H s → Heap.MadeExcOf s.heap h' a cls vs → E cls none H → X.xe (.ref a) { s with heap := h' }
end
end
/-! ### raise C(..), C an error class of the text's own without an __init__ -/
def tRaise (C : Addr) (E : XK) (t : TA) : TS := fun _ σ H => t σ H fun vs H1 => vs.length ≤ sizeLine ∧ E (.ref C) none H1
end L2
namespace L2
open PySem PySem.Spec PyProof.Rows
/-! ### what an error class of the text's own must have -/
structure XCls (K : PySem.W.Frag) (C : Addr) : Prop where
  ga : PySem.W.findIn K (.ref C) "__getattribute__" = some (some (.builtin "BaseException.__getattribute__"))
  gn : PySem.W.findIn K (.ref C) "__getattr__" = some none
  gc : PySem.W.findIn K (.ref C) "__class__" = some (some (.builtin "object.__class__"))
  sb : PySem.W.subIn K (.ref C) (.type "BaseException") = some true
  so : PySem.W.subIn K (.ref C) (.type "object") = some true
  cl : (PySem.W.clsIn K C).isSome = true
section
variable {prog : Program} {w : World} {A : Around} {E : Value → Shared → Prop} {h : Heap} {g : Array GenState} {d : Drawn} {t : Nat} {os : OsState} {a C : Addr} {o : Obj} {K : PySem.W.Frag}
end
/-- an error of the class at C -/
def excO (a C : Addr) (dx : Option Addr) : HO := .ext fun h => ∃ o vs, h.get? a = some o ∧ o.cls = .ref C ∧ o.dict = dx ∧ o.data = .fields vs ∧ vs[2]? = some .none
section
variable {M : Model} {A : Around} {E : Value → Shared → Prop} {s : Shared} {K : PySem.W.Frag}
end
end L2
namespace L2
open PySem PySem.Spec PyProof.Rows
/-! ### try .. except C as n -/
abbrev Cx.pins (X : Cx) (pn : List (Addr × Obj)) : Cx := { X with pn := pn }
/-- within an except suite -/
abbrev Cx.inH (X : Cx) (ev : Value) (pn : List (Addr × Obj)) : Cx := { X with A := X.A.mark (some ev), calm := false, pn := pn, xe := fun _ _ => False }
/-- an exception has come to this frame -/
def Arr (X : Cx) (E : XK) (e : Value) (s' : Shared) : Prop := ∃ pins σ H s, Inv X pins σ H s ∧ CXE X.prog X.w X.base X.stack H s E e s'
section
variable {X : Cx} {pins ps : List (Addr × Obj)} {σ : St} {H : Hp} {s : Shared}
/-- an untracked thing that is younger than the entry is tracked -/
theorem Inv.track {a : Addr} {o : HO} (I : Inv X pins σ H s) (hn : H a = none) (h0 : ∀ o, X.s₀.heap.get? a = some o → a ∈ X.ex) (hL : a ≠ X.env.locals) (hc : ∀ x c, X.env.cells.lookup x = some c → c ≠ a) (hp : ∀ p ∈ X.pn ++ pins, p.1 ≠ a) (ok : ObjOk X.prog X.w (upd H a o) s.heap a o) : Inv X pins σ (upd H a o) s := by
  have B := I.base
  refine ⟨I.ok, I.os, I.bare, ⟨B.keep, B.slot, fun b u e n hx => ?_, B.there, fun b xs e => ?_, fun b u v e => ?_, fun b ps e => ?_⟩, I.loc, I.cell, ?_, fun x c e => ?_, fun p hq => ?_, fun b u e => ?_, I.len⟩
  · rw [upd_ne (fun z => by subst z; exact hx (h0 u e))]; exact B.free b u e n hx
  · have := B.tups b xs e
    rw [upd_ne (ne_of_none this hn)]; exact this
  · have := B.frzs b u v e
    rw [upd_ne (ne_of_none this hn)]; exact this
  · obtain ⟨m, this⟩ := B.tbls b ps e
    exact ⟨m, by rw [upd_ne (ne_of_none this hn)]; exact this⟩
  · rw [upd_ne hL.symm]; exact I.free
  · rw [upd_ne (hc x c e)]; exact I.freeC x c e
  · obtain ⟨e, n, r⟩ := I.pin p hq
    exact ⟨e, by rw [upd_ne (hp p hq)]; exact n, r⟩
  · by_cases hb : b = a
    · subst hb; rw [upd_same] at e; cases e; exact ok
    · rw [upd_ne hb] at e
      exact (I.hok b u e).stay (fun _ _ _ q => q) (fun c q => by rw [upd_ne (ne_of_none q hn)]; exact q) fun c xs q => by rw [upd_ne (ne_of_none q hn)]; exact q
end
def tTry (K : PySem.W.Frag) (C : Addr) (n i : Nat) (tb : TS) (th : Addr → TS) (E : XK) : TS := fun D σ H => tb D σ H ∧ ∀ cls dx H', E cls dx H' → ∃ C2, cls = .ref C2 ∧ PySem.W.kitCls K (.ref C2) (.ref C) = some true ∧
  ∀ a, H' a = none → th a { nx := fun σ' H'' => D.nx (σ'.set i none) H'', rt := D.rt, bk := fun σ' H'' => D.bk (σ'.set i none) H'', ct := fun σ' H'' => D.ct (σ'.set i none) H'' } ((List.replicate n none).set i (some (.ref a))) (upd H' a (excO a C2 dx))
end L2
namespace L2
open PySem PySem.Spec PyProof.Rows
/-! ### the end of a list, met while an error is handled -/
/-- the handled error's record: no context -/
def NoCtx (a : Addr) (h : Heap) : Prop := ∃ o vs, h.get? a = some o ∧ o.data = .fields vs ∧ vs[2]? = some .none
section
variable {prog : Program} {w : World} {A : Around} {E : Value → Shared → Prop} {s : Shared}
end
section
variable {X : Cx}
/-- isinstance(x, C'), C' a class of the text's own, x no error -/
theorem call_isinstO : CallR X (.builtin "isinstance") (fun xs H Q => ∃ x C' t b, xs = [x, .ref C'] ∧ TyOf X.K H x t ∧ PySem.W.kitOne X.K t (.ref C') = some b ∧ Q (.bl b) H) := by
  intro pins s σ H xs us Q I r h
  obtain ⟨x, C', t, b, rfl, ty, e, q⟩ := h
  obtain ⟨u, c, rfl, ru, rc⟩ := vals2 r
  cases rc
  exact isinst_ok I ru ty e fun tk => ⟨.bl b, H, I.tok _, rfl, q⟩
end
theorem kitOne_same (K : PySem.W.Frag) (v : Addr) : PySem.W.kitOne K (.ref v) (.ref v) = some true := by unfold PySem.W.kitOne; rw [if_pos (by simp)]
theorem kitOne_ne {K : PySem.W.Frag} {t c : Value} {b : Bool} (h : (t == c) = false) (e : PySem.W.kitCls K t c = some b) : PySem.W.kitOne K t c = some b := by unfold PySem.W.kitOne; rw [if_neg (by rw [h]; decide)]; exact e
end L2
namespace L2
open PySem PySem.Spec PyProof.Rows PySem.Builtin PySem.Builtin.ObjectAttr
/-! ### error classes of the text's own with an own __init__: the name laid, the error made, the name read -/
def xTail : List Value := [.type "ValueError", .type "Exception", .type "BaseException", .type "object"]
def xOver : List Value → Bool
  | [] => false
  | v :: r => (v :: r) == xTail || match v with
    | .ref _ => xOver r
    | _ => false
/-- what an error class must have to be given a name -/
structure XSto (K : PySem.W.Frag) (C : Addr) (f : Str) : Prop where
  sa : PySem.W.findIn K (.ref C) "__setattr__" = some (some (.builtin "object.__setattr__"))
  na : PySem.W.findIn K (.ref C) f = some none
  po : ((PySem.W.clsIn K C).any fun cd => xOver cd.mro) = true
  hd : PySem.W.hasDictIn K C = true
section
variable {prog : Program} {w : World} {A : Around} {R : Result → Shared → Prop} {s : Shared} {K : PySem.W.Frag} {x C : Addr} {ox : Obj} {vs : Array Value} {name : Str} {tk : Tok} {v : Value}
end
/-- an error of the class at C that is being made -/
def excN (a C : Addr) (dx : Option Addr) : HO := .ext fun h => ∃ o vs, h.get? a = some o ∧ o.cls = .ref C ∧ o.dict = dx ∧ o.data = .fields vs ∧ vs[1]? = some .none ∧ vs[2]? = some .none
section
variable {X : Cx} {pins : List (Addr × Obj)} {σ : St} {H : Hp} {s : Shared} {a C : Addr} {f : Str} {A : Around} {E : Value → Shared → Prop}
end
/-- e.f = value of an error that is being made, the first name -/
def sFldX (K : PySem.W.Frag) (ta tv : TE) (f : Str) : TS := fun D σ H => tv σ H fun y H1 => ta σ H1 fun x H2 => ∃ a C, x = .ref a ∧ H2 a = some (excN a C none) ∧ XSto K C f ∧ ∀ d, H2 d = none → d ≠ a → D.nx σ (upd (upd H2 a (excN a C (some d))) d (.xd [(f, y)]))
section
variable {X : Cx} {o e value : Expr} {f : Str} {pos pos' tpos : Pos} {ta tv : TE}
end
/-! ### error.name -/
structure XGet (K : PySem.W.Frag) (C : Addr) (f : Str) : Prop where
  x : XCls K C
  na : PySem.W.findIn K (.ref C) f = some none
  hd : PySem.W.hasDictIn K C = true
section
variable {prog : Program} {w : World} {A : Around} {E : Value → Shared → Prop} {h : Heap} {g : Array GenState} {d : Drawn} {t : Nat} {os : OsState} {a C : Addr} {o od : Obj} {K : PySem.W.Frag} {name : Str} {v : Value}
end
def tFldX (K : PySem.W.Frag) (ta : TE) (f : Str) : TE := fun σ H Q => ta σ H fun x H1 => ∃ a C d fs v, x = .ref a ∧ H1 a = some (excO a C (some d)) ∧ H1 d = some (.xd fs) ∧ XGet K C f ∧ fs.lookup f = some v ∧ Q v H1
/-! ### raise C(..), C an error class with an own __init__ -/
section
variable {prog : Program} {w : World} {A : Around} {E : Value → Shared → Prop} {h : Heap} {g : Array GenState} {d : Drawn} {t : Nat} {os : OsState}
variable {nm q : Str} {C N : Addr} {bs bm bmB : List Value} {hdct : Bool} {sn : List Str} {sub : List Value} {ab : Bool} {col : Option Bool} {dd : Option Addr} {k0 k1 k2 k3 k5 : Option Value} {B Bn newId nid initId inN : String} {bmN : List Value}
end
section
variable {prog : Program} {w : World} {A : Around} {E : Value → Shared → Prop} {s : Shared} {env : Env}
variable {nm q : Str} {C N : Addr} {bs bm bmB : List Value} {hdct : Bool} {sn : List Str} {sub : List Value} {ab : Bool} {col : Option Bool} {dd : Option Addr} {k0 k1 k2 k3 k5 : Option Value} {B Bn newId nid initId inN : String} {bmN : List Value}
end
end L2
namespace L2
open PySem PySem.Spec PyProof.Rows
def del (H : Hp) (a : Addr) : Hp := fun b => if b = a then none else H b
def RaisesI (X : Cx) (E : XK) : Prop := ∀ (pins : List (Addr × Obj)) (σ : St) (H : Hp) (s : Shared) (a C : Addr) (dx : Option Addr), Inv X pins σ H s → X.s₀.heap.get? a = none → H a = some (excN a C dx) → E (.ref C) dx (del H a) → X.xe (.ref a) s
section
variable {P : Program} {w : World} {K : PySem.W.Frag} {mg : Str → Option Value} {base : Heap}
variable {N : List Str} {qual : Str} {scope : Scope} {f : Addr} {cd : Value} {A : Around} {outer : List Env} {s₀ : Shared} {H₀ : Hp} {E : XK}
end
/-- as excIn, with an own __init__ -/
def excInI (K : PySem.W.Frag) (C : Addr) (bmB : List Value) (newId : String) : Bool := match K.lookup C with
  | some ⟨.type "type", _, .cls cd, sl⟩ => (match cd.mro, sl.toList with
    | .ref C' :: bm, [_, _, _, _, some (.builtin n), _] => C' == C && n == newId && !cd.hasDel && PySem.W.tailIn K bmB bm
    | _, _ => false)
  | _ => false
/-- what an error class with an own __init__ must have to be made -/
structure XMk (K : PySem.W.Frag) (C f : Addr) : Prop where
  q : excInI K C [.type "ValueError", .type "Exception", .type "BaseException", .type "object"] "ValueError.__new__" = true
  init : PySem.W.findIn K (.ref C) "__init__" = some (some (.ref f))
  fn : PySem.W.isFn K (.ref f) = true
  at_ : (K.lookup f).isSome = true
def tRaiseI (C : Addr) (sp : Sp) (E : XK) (t : TA) : TS := fun _ σ H => t σ H fun vs H1 => vs.length ≤ sizeLine ∧ ∀ a, H1 a = none → sp (.ref a :: vs) (upd H1 a (excN a C none)) (fun r H2 => r = .non ∧ ∃ dx, H2 a = some (excN a C dx) ∧ E (.ref C) dx (del H2 a)) E0
end L2
namespace L2
open PySem PySem.Spec PyProof.Rows
/-! ### sorted(d), d a dict whose keys are ints -/
section
variable {prog : Program} {w : World} {A : Around} {E : Value → Shared → Prop} {s : Shared} {T : String} {r d : Addr} {n : Nat} {P : Nat → Value → Prop} {OK : Heap → Prop} {ns : List Int} {Q : Value → Shared → Prop}
end
section
variable {X : Cx}
end
end L2
namespace L2
open PySem PySem.Spec PyProof.Rows
/-! ### texts: the signs of a text, f-strings, join, split, int(text), None in xs -/
def Its (x : Str) : It := ⟨fun i _ => i < x.cps.size, fun i H y H' => H' = H ∧ ∃ c, x.cps[i]? = some c ∧ y = .str ⟨#[c]⟩, fun i _ => i = x.cps.size⟩
section
variable {X : Cx} {tg : Expr}
def iStr (tl : TE) : TI := fun σ H R => tl σ H fun x H1 => ∃ z, x = .str z ∧ R (Its z) H1
end
section
variable {X : Cx}
def rJoin (K : PySem.W.Frag) : V → List V → Hp → VK → Prop := fun x vs H Q => ∃ sep p ys, x = .str sep ∧ vs = [.ref p] ∧ SqL K H p (ys.map V.str) ∧ (ys.map (·.length)).sum + ys.length * sep.length ≤ 16777216 ∧ Q (.str (Txt.join sep ys)) H
def rSplit : V → List V → Hp → VK → Prop := fun x vs H Q => ∃ z y, x = .str z ∧ vs = [.str y] ∧ (y.length == 0) = false ∧ z.length + 2 ≤ sizeLine ∧ ∀ l, H l = none → Q (.ref l) (upd H l (.lst ((Txt.split z y).map V.str)))
/-! f-strings -/
def tFmt (te : TE) : TE := fun σ H Q => te σ H fun x H1 => ∃ i : Int, x = .int i ∧ i.natAbs.log2 < 1920 ∧ Q (.str (toString i)) H1
abbrev TJ := Str → St → Hp → VK → Prop
def PJ (X : Cx) (es : List Expr) (t : TJ) : Prop :=
  ∀ (pins : List (Addr × Obj)) (s : Shared) (σ : St) (H : Hp) (out : Str) (Q : VK), Inv X pins σ H s → t out σ H Q → wpAny (model X.prog X.w) X.A (joinParts out (evalEach es X.env)) (EP X pins σ Q) X.xe s
def jNil : TJ := fun out _ H Q => out.length ≤ sizeLine ∧ Q (.str out) H
def jCons (te : TE) (r : TJ) : TJ := fun out σ H Q => te σ H fun x H1 => ∃ y, x = .str y ∧ (out ++ y).length ≤ sizeLine ∧ r (out ++ y) σ H1 Q
/-! None in xs, xs of None and tuples -/
def isN : V → Bool
  | .non => true
  | _ => false
def isNV : Value → Bool
  | .none => true
  | _ => false
def rNoneIn (K : PySem.W.Frag) : R2 := fun x y H Q => ∃ p xs, x = .non ∧ y = .ref p ∧ SqL K H p xs ∧ (∀ z ∈ xs, z = .non ∨ ∃ a ys, z = .ref a ∧ H a = some (.tup ys)) ∧ Q (.bl (xs.any isN)) H
end
end L2
namespace L2
open PySem PySem.Spec PyProof.Rows
/-! ### texts and lists so many times, the place of a None -/
def repS (z : Str) (n : Nat) : Str := ⟨(List.replicate n z.cps).foldl (· ++ ·) #[]⟩
section
variable {X : Cx}
def rMulStr : R2 := fun x y H Q => ∃ z n, x = .str z ∧ y = .int n ∧ 2 ≤ n ∧ n ≤ 10000 ∧ 1 ≤ z.length ∧ z.length ≤ 100 ∧ Q (.str (repS z n.toNat)) H
def rMulList (K : PySem.W.Frag) : R2 := fun x y H Q => ∃ p xs n, x = .ref p ∧ y = .int n ∧ H p = some (.lst xs) ∧ 1 ≤ xs.length ∧ xs.length ≤ 100 ∧ 0 ≤ n ∧ n ≤ 1000 ∧ ∀ l, H l = none → Q (.ref l) (upd H l (.lst (List.replicate n.toNat xs).flatten))
def rIndexN (K : PySem.W.Frag) : V → List V → Hp → VK → Prop := fun x vs H Q => ∃ p xs j, x = .ref p ∧ vs = [.non] ∧ SqL K H p xs ∧ (∀ z ∈ xs, z = .non ∨ ∃ a ys, z = .ref a ∧ H a = some (.tup ys)) ∧ xs[j]? = some .non ∧ (∀ m, m < j → xs[m]? ≠ some .non) ∧ Q (.int (j : Nat)) H
end
end L2
namespace WR
open PySem
/-! ### texts split and joined -/
end WR
namespace WR
open PySem PySem.NumText
/-! ### numbers in figures -/
abbrev numT (n : Int) : Str := Str.ofString (toString n)
/-- figures, one to seven, none ahead a nought -/
def numB (x : Str) : Bool := decide (1 ≤ x.length) && decide (x.length ≤ 7) && x.cps.toList.all (fun c => decide (48 ≤ c ∧ c ≤ 57)) && !(decide (x.cps.toList.head? = some 48) && decide (x ≠ "0"))
def numM (x : Str) : Option Int := if numB x = true then some (digitsVal x.cps.toList : Nat) else none
end WR
namespace L2
open PySem PySem.Spec PyProof.Rows
/-! ### long displays of written constants -/
theorem star_const (v : PySem.Const) (j : Nat) (p : Pos) (es : List Expr) (env : Env) : starEach (.Constant v j p :: es) env = (false, eval (.Constant v j p) env) :: starEach es env := by rfl
theorem star_bin (a : Expr) (o : Operator) (b : Expr) (p : Pos) (es : List Expr) (env : Env) : starEach (.BinOp a o b p :: es) env = (false, eval (.BinOp a o b p) env) :: starEach es env := by rfl
section
variable {X : Cx} {es : List Expr} {te : TE} {t : TA}
theorem pa_consC {v : PySem.Const} {j : Nat} {p : Pos} (ha : PE X (.Constant v j p) te) (hr : PA X es t) : PA X (.Constant v j p :: es) (tCons te t) := pa_cons ha hr (star_const v j p es X.env)
theorem pa_consB {a b : Expr} {o : Operator} {p : Pos} (ha : PE X (.BinOp a o b p) te) (hr : PA X es t) : PA X (.BinOp a o b p :: es) (tCons te t) := pa_cons ha hr (star_bin a o b p es X.env)
end
end L2
namespace L2
open PySem PySem.Spec PyProof.Rows
/-! ### the rules as kept facts, for long displays -/
structure XE (X : Cx) (e : Expr) (t : TE) : Prop where
  out : PE X e t
structure XA (X : Cx) (es : List Expr) (t : TA) : Prop where
  out : PA X es t
structure XS (X : Cx) (st : Stmt) (t : TS) : Prop where
  out : PS X st t
structure XSs (X : Cx) (sts : List Stmt) (t : TS) : Prop where
  out : PSs X sts t
section
variable {X : Cx} {e a b : Expr} {es : List Expr} {te ta tb : TE} {tl : TA} {st : Stmt} {sts : List Stmt} {t u : TS} {pos pos' : Pos}
end
end L2
namespace L2
open PySem
/-! ### the places of a set's table rise -/
def Rise (l : List Nat) : Prop := l.Pairwise (· < ·)
theorem Rise.get {l : List Nat} (h : Rise l) {i j : Nat} (hi : i < l.length) (hj : j < l.length) (hij : i < j) : l[i] < l[j] := List.pairwise_iff_getElem.mp h i j hi hj hij
/-- a table as a maker leaves it: led or not, its places rise, nothing was taken out -/
structure Tb (b : Bool) (t : SetTable) : Prop where
  led : t.led = b
  rise : Rise t.place.toList
  none : t.dummies = #[]
theorem Tb.slot {b : Bool} {t : SetTable} (h : Tb b t) (j : Nat) : t.slot j = .empty ∨ ∃ i, t.slot j = .live i := by
  unfold SetTable.slot
  simp only
  by_cases c : (t.place[SetTable.below t.place j]? == some j) = true
  · rw [if_pos c]; exact .inr ⟨_, rfl⟩
  · rw [if_neg c]
    have : SetTable.has t.dummies j = false := by rw [h.none]; rfl
    rw [this]
    exact .inl rfl
end L2
namespace L2
open PySem PySem.Spec PyProof.Rows
/-! ### a set of ints that is made of a list -/
def valI : Value → Int
  | .int n _ => n
  | _ => 0
def keysI (es : Array (Int × Value)) : List Int := es.toList.map fun e => valI e.2
def SetI (prog : Program) (w : World) (h : Heap) (a : Addr) (b : Bool) (ks : List Int) : Prop := ∃ o es ep t, h.get? a = some o ∧ o.ExactSet ∧ o.data = .set es ep t ∧ ElemsOf (intKind prog w) es.toList ∧ ks.Perm (keysI es) ∧ es.size < scanBound ∧ t.fits es.size = true ∧ Tb b t
section
variable {prog : Program} {w : World} {A : Around} {E : Value → Shared → Prop} {s : Shared}
theorem SetI.keep {h h' : Heap} {a : Addr} {b : Bool} {ks : List Int} (S : SetI prog w h a b ks) (k : ∀ o, h.get? a = some o → h'.get? a = some o) : SetI prog w h' a b ks :=
  let ⟨o, es, ep, t, h1, r⟩ := S; ⟨o, es, ep, t, k o h1, r⟩
end
end L2
namespace L2
open PySem PySem.Spec PyProof.Rows
/-- whom a list's first numbers are -/
def Those (ks ns : List Int) : Prop := ks.Nodup ∧ ∀ x, x ∈ ks ↔ x ∈ ns
theorem Those.len {ks ns : List Int} (h : Those ks ns) : ks.length ≤ ns.length := by
  have aux : ∀ {l m : List Int}, l.Nodup → (∀ x ∈ l, x ∈ m) → l.length ≤ m.length := by
    intro l
    induction l with
    | nil => intro m _ _; exact Nat.zero_le _
    | cons a l ih =>
      intro m nd sub
      have nd := List.nodup_cons.mp nd
      have ha := sub a (List.mem_cons_self ..)
      have := ih (m := m.erase a) nd.2 fun x hx => by
        have hm := sub x (List.mem_cons_of_mem _ hx)
        have ne : x ≠ a := fun z => nd.1 (z ▸ hx)
        exact (List.mem_erase_of_ne ne).mpr hm
      rw [List.length_erase_of_mem ha] at this
      have : 0 < m.length := List.length_pos_iff.mpr (List.ne_nil_of_mem ha)
      simp only [List.length_cons]
      omega
  exact aux h.1 fun x hx => (h.2 x).mp hx
section
variable {prog : Program} {w : World} {A : Around} {R : Result → Shared → Prop} {I : Addr} {fp wr : List Addr} {G : Array GenState → Array GenState → Prop} {P : Nat → Value → Prop} {St : Nat → Shared → Prop} {ns : List Int} {b : Bool}
end
section
variable {prog : Program} {w : World} {A : Around} {E : Value → Shared → Prop} {s : Shared}
def ledOf (w : World) : Bool := !w.params.followText "set-order"
abbrev freshSet (b : Bool) : Obj := { cls := .type "set", dict := none, data := .set #[] 0 (.fresh 0 0 b) }
end
end L2
namespace L2
open PySem PySem.Spec PyProof.Rows
/-! ### what a set is walked by -/
section
variable {prog : Program} {w : World} {A : Around} {E : Value → Shared → Prop} {s : Shared}
/-- the order in which a table's elements come (no order is drawn for it) -/
def outOf (w : World) (a : Addr) (ep : Nat) (es : Array (Int × Value)) : Array (Int × Value) := if w.params.followText "set-order" = true then pickOrder (w.params.setOrder a ep) es else es
/-- the slot that is looked at for the i-th element -/
def slotAt (w : World) (t : SetTable) (i : Nat) : Nat := if w.params.followText "set-order" = true then 0 else match i with
  | 0 => 0
  | i + 1 => t.place.getD i 0 + 1
end
end L2
namespace L2
open PySem PySem.Spec PyProof.Rows
abbrev setIter (first : Value) (i : Nat) (a : Addr) (n ep : Nat) : Obj := { cls := .type "set_iterator", data := .fields #[first, rawInt i, .ref a, rawInt n, rawInt ep] }
section
variable {prog : Program} {w : World} {A : Around} {E : Value → Shared → Prop} {s : Shared}
end
end L2
namespace L2
open PySem PySem.Spec PyProof.Rows
section
variable {prog : Program} {w : World} {A : Around} {E : Value → Shared → Prop} {s : Shared}
/-! an order is drawn -/
abbrev placesObj (ord : List Nat) : Obj := { cls := .type "tuple", data := .seq (ord.map fun (i : Nat) => rawInt i).toArray }
end
end L2
namespace L2
open PySem PySem.Spec PyProof.Rows
section
variable {prog : Program} {w : World} {A : Around} {E : Value → Shared → Prop} {s : Shared}
/-- what the walk of a set gives: its numbers, each once, in some order -/
def GivesI (P : Nat → Value → Prop) (ks : List Int) : Prop := ∀ acc : Array Value, ItemsOf P acc ks.length → ∃ ns, IntsAre acc.toList ns ∧ ns.Perm ks
end
end L2
namespace L2
open PySem PySem.Spec PyProof.Rows
section
variable {prog : Program} {w : World} {A : Around} {E : Value → Shared → Prop} {s : Shared}
end
/-! ### the rules -/
def setO (P : Program) (w : World) (a : Addr) (ks : List Int) : HO := .ext fun h => SetI P w h a (ledOf w) ks
section
variable {X : Cx} {pins : List (Addr × Obj)} {σ : St} {H : Hp} {s : Shared}
end
end L2
namespace L2
open PySem PySem.Spec PyProof.Rows
/-! ### dict(xs), xs a list of pairs whose first is an int; d.get(k) -/
section
variable {prog : Program} {w : World} {A : Around} {E : Value → Shared → Prop} {s : Shared}
end
end L2
namespace L2
open PySem PySem.Spec PyProof.Rows
section
variable {prog : Program} {w : World} {A : Around} {E : Value → Shared → Prop} {s : Shared} {R : Result → Shared → Prop} {K : Type} [DecidableEq K] {knd : KeyKind prog w K}
/-- the pairs are there -/
def PairsIn (knd : KeyKind prog w K) (h : Heap) (items : Array Value) (ps : List (K × Value)) (bad : List Addr) : Prop := items.size = ps.length ∧ ∀ (i : Nat) (v : Value) (p : K × Value), items[i]? = some v → ps[i]? = some p → ∃ a kv, v = .ref a ∧ a ∉ bad ∧ knd.is p.1 kv = true ∧ h.IsTuple a #[kv, p.2]
end
end L2
namespace L2
open PySem PySem.Spec PyProof.Rows
section
variable {X : Cx}
end
end L2
namespace L2
open PySem PySem.Spec PyProof.Rows
/-! ### range(n) as a thing, list of it; xs[i] += k -/
section
variable {X : Cx}
theorem call_range1 : CallR X (.type "range") (fun xs H Q => ∃ n : Int, xs = [.int n] ∧ ∀ l, H l = none → Q (.ref l) (upd H l (.rng 0 n))) := by
  intro pins s σ H xs us Q I r h
  obtain ⟨n, rfl, q⟩ := h
  obtain ⟨u, rfl, t, rfl⟩ := vals1 r
  exact call_range_1 ⟨.ref s.heap.objs.size, _, I.laid (t' := s.toks + 1 + 1) (fun b ob e => Heap.get?_push_of_some _ e) (Nat.le_refl _) (show ObjOk X.prog X.w _ _ s.heap.objs.size (.rng 0 n) from ⟨_, _, _, Heap.get?_push_size _ rfl⟩), rfl, q _ (I.hok.fresh (Nat.le_refl _))⟩
theorem ints_of_items {n : Nat} {acc : Array Value} (h : ItemsOf (fun i v => ∃ t, v = Value.int (0 + (i : Int) * 1) t) acc n) : IntsAre acc.toList ((List.range n).map fun (k : Nat) => (k : Int)) := by
  have key : ∀ (l : List Value) (lo : Nat), (∀ (i : Nat) (v : Value), l[i]? = some v → ∃ t, v = .int ((lo + i : Nat) : Int) t) → IntsAre l ((List.range' lo l.length).map fun (k : Nat) => (k : Int)) := by
    intro l
    induction l with
    | nil => intro lo _; exact .nil
    | cons v l ih =>
      intro lo hv
      obtain ⟨t, e⟩ := hv 0 v rfl
      rw [List.length_cons, List.range'_succ, List.map_cons, e]
      refine .cons _ _ (ih (lo + 1) fun i v' q => ?_)
      obtain ⟨t', e'⟩ := hv (i + 1) v' (by simpa using q)
      exact ⟨t', by rw [e']; congr 1; omega⟩
  have := key acc.toList 0 fun i v q => by
    obtain ⟨t, e⟩ := h.2 i v (by rw [← Array.getElem?_toList]; exact q)
    exact ⟨t, by rw [e]; congr 1; omega⟩
  rw [show acc.toList.length = n by rw [Array.length_toList]; exact h.1, ← List.range_eq_range'] at this
  exact this
end
end L2
namespace L2
open PySem PySem.Spec PyProof.Rows
end L2
namespace L2
open PySem PySem.Spec PyProof.Rows PySem.W
/-! ### lambdas as keys -/
/-- a lambda's code object; the lambda itself -/
def codeO (c : Addr) (qual : Str) : HO := .ext fun h => ∃ oc vs t, h.get? c = some oc ∧ oc.data = .fields vs ∧ vs[1]? = some (.str qual t)
def lamO (f : Addr) (qual : Str) (params : Arguments) (body : Expr) (scope : Scope) (clos : List (Str × Addr)) (c : Addr) : HO := .ext fun h => ∃ pm ctv, h.get? f = some (kla_obj "<lambda>" qual params body scope clos pm c ctv)
theorem codeO_ok {P : Program} {w : World} {H : Hp} {h : Heap} {c : Addr} {qual : Str} {oc : Obj} {vs : Array Value} {t : Tok} (h1 : h.get? c = some oc) (h2 : oc.data = .fields vs) (h3 : vs[1]? = some (.str qual t)) : ObjOk P w H h c (codeO c qual) :=
  ⟨⟨oc, vs, t, h1, h2, h3⟩, ⟨oc, h1⟩, fun _ _ ⟨o, vs, t, q, r⟩ st => ⟨o, vs, t, st _ q, r⟩⟩
theorem lamO_ok {P : Program} {w : World} {H : Hp} {h : Heap} {f c : Addr} {qual : Str} {params : Arguments} {body : Expr} {scope : Scope} {clos : List (Str × Addr)} {pm ctv : Value} (h1 : h.get? f = some (kla_obj "<lambda>" qual params body scope clos pm c ctv)) :
    ObjOk P w H h f (lamO f qual params body scope clos c) := ⟨⟨pm, ctv, h1⟩, ⟨_, h1⟩, fun _ _ ⟨pm, ctv, q⟩ st => ⟨pm, ctv, st _ q⟩⟩
/-- the table of the code that holds the lambda: not yet made, or made before -/
def LamT (H : Hp) (P : Addr) (pos : Pos) (qual : Str) : Prop := ∃ ps : Array Value, H P = some (.tbl ps) ∧ TriplesOk ps.toList ∧ (codeAmong pos ps.toList = none ∨ ∃ c, codeAmong pos ps.toList = some (.ref c) ∧ H c = some (codeO c qual))
def KeepT (P : Addr) (H H' : Hp) : Prop := ∀ b o, H b = some o → b ≠ P → H' b = some o
/-- where the builtins' module stands -/
def Bm (base : Heap) (mg : Str → Option Value) : Prop := ∃ bm ob, mg "__builtins__" = some (.ref bm) ∧ bm ≠ builtinsNs ∧ base.get? bm = some ob ∧ ob.cls = .type "module" ∧ ob.dict = some builtinsNs ∧ ob.data = .plain
theorem Inv.turnedT {X : Cx} {pins : List (Addr × Obj)} {σ : St} {H : Hp} {s : Shared} {h' : Heap} {t' : Nat} {m : Str → Option Value} (I : Inv X pins σ H s) (k : ∀ b o, b ≠ X.env.locals → s.heap.get? b = some o → h'.get? b = some o) (hn : h'.Ns X.env.locals m)
    (hv : ∀ (i : Nat) (x : Str) (v : V), X.N[i]? = some x → σ[i]? = some (some v) → Vis X.env.scope x → ∃ u, RelV v u ∧ Look X.env s.heap m x u) : Inv X pins σ H { s with heap := h', toks := t' } := by
  have neL : ∀ b o, X.s₀.heap.get? b = some o → b ≠ X.env.locals := fun b o e => Nat.ne_of_lt (Nat.lt_of_lt_of_le (Heap.lt_size e) I.ok.above)
  have B := I.base
  refine ⟨I.ok, I.os, I.bare, ⟨fun b o e n hb hx => k _ _ (neL b o e) (B.keep b o e n hb hx), fun b o e n hb hx => ?_, fun b o e n hx => B.free b o e n hx, fun b o e hx => ?_, B.tups, B.frzs, B.tbls⟩, ⟨m, hn, fun i x v e1 e2 e3 => ?_⟩, fun x c e => ?_, I.free, I.freeC, fun p hp => ?_, fun a o e => ?_, I.len⟩
  · obtain ⟨sl, q⟩ := B.slot b o e n hb hx
    exact ⟨sl, k _ _ (neL b o e) q⟩
  · obtain ⟨o', q⟩ := B.there b o e hx
    exact ⟨o', k _ _ (neL b o e) q⟩
  · obtain ⟨u, r, l⟩ := hv i x v e1 e2 e3
    refine ⟨u, r, ?_⟩
    rcases l with l | ⟨l1, c, l2, o, ho, hd⟩
    · exact .inl l
    · exact .inr ⟨l1, c, l2, o, k _ _ (I.cne x c l2) ho, hd⟩
  · obtain ⟨v, o, ho, hd⟩ := I.cell x c e
    exact ⟨v, o, k _ _ (I.cne x c e) ho, hd⟩
  · obtain ⟨e, n, ne, nf, d⟩ := I.pin p hp
    exact ⟨k _ _ ne e, n, ne, nf, d⟩
  · refine (I.hok a o e).stay (fun b u hb q => k b u (fun z => ?_) q) (fun _ q => q) fun _ _ q => q
    rcases hb with hb | hb
    · rw [← hb, z, I.free] at e; cases e
    · rw [z, I.free] at hb; cases hb
/-- all things but the frame, as news over the base -/
def allN (h base : Heap) (L : Addr) : List (Addr × Obj) := (List.range h.objs.size).filterMap fun b => match h.get? b with
  | some o => if b = L then none else if (base.get? b).isSome then none else some (b, o)
  | none => none
theorem mem_allN {h base : Heap} {L b : Addr} {o : Obj} : (b, o) ∈ allN h base L ↔ h.get? b = some o ∧ b ≠ L ∧ base.get? b = none := by
  unfold allN
  rw [List.mem_filterMap]
  constructor
  · rintro ⟨b', _, e⟩
    cases q : h.get? b' with
    | none => rw [q] at e; cases e
    | some o' =>
      rw [q] at e
      dsimp only at e
      split at e
      · cases e
      · split at e
        · cases e
        · rename_i n1 n2
          cases e
          exact ⟨q, n1, by cases z : base.get? b with | none => rfl | some _ => rw [z] at n2; exact absurd rfl n2⟩
  · rintro ⟨e, n, z⟩
    refine ⟨b, List.mem_range.mpr (Heap.lt_size e), ?_⟩
    rw [e]
    dsimp only
    rw [if_neg n, z]
    rfl
theorem allN_news (h base : Heap) (L : Addr) : News base L h (allN h base L) := fun p hp => by
  obtain ⟨b, o⟩ := p
  exact mem_allN.mp hp
theorem allN_keep {h h' base : Heap} {L : Addr} {m : Str → Option Value} (F : Fr base L h' m) (N : News base L h' (allN h base L)) (kb : ∀ b o, base.get? b = some o → h.get? b = some o) : ∀ b o, b ≠ L → h.get? b = some o → h'.get? b = some o := fun b o n e => by
  cases q : base.get? b with
  | none => exact (N (b, o) (mem_allN.mpr ⟨e, n, q⟩)).1
  | some u =>
    have z := kb b u q
    rw [e] at z; cases z
    exact F.keep b o q
section
variable {prog : Program} {w : World} {A : Around} {R : Result → Shared → Prop} {s : Shared}
/-- a lambda of one parameter is called: a frame, then its body -/
theorem lam_call {f c : Addr} {qual : Str} {params : Arguments} {body : Expr} {scope : Scope} {cl : List (Str × Addr)} {pm ctv v : Value} {x : Str} (ho : s.heap.get? f = some (kla_obj "<lambda>" qual params body scope cl pm c ctv)) (hcd : s.heap.CodeRec (.ref c) qual) (hnl : s.heap.NoLimit) (hroom : A.depth < recursionLimit)
    (hb : bindArgs (kla_fn "<lambda>" qual params body scope cl pm (.ref c) ctv) ⟨[v], []⟩ = pure [(x, v)]) (hloc : scope.names.lookup x = some .local) (hco : scope.isCoroutine = false) (hgen : scope.isGenerator = false) (hk : scope.kind = .function) (hcell : ∀ x ∈ scope.names, x.2 ≠ .cell)
    (h : ∀ h₁, h₁.Ns s.heap.objs.size (fun y => List.lookup y [(x, v)]) → (∀ b o, s.heap.get? b = some o → h₁.get? b = some o) →
      wpAny (model prog w) (A.deeper (envX qual scope s.heap.objs.size f (.ref c) cl)) (eval body (envX qual scope s.heap.objs.size f (.ref c) cl)) (fun u s' => R (.ok (.ret u)) s') (fun _ _ => False) { s with heap := h₁, toks := s.toks + 1 }) :
    codeAny (model prog w) A (.call (.ref f) ⟨[v], []⟩) R s := by
  refine kla_callFunE hroom ho rfl hco hgen rfl hcd ?_
  rw [hb]
  refine wpAny_pure (wpAny_newFunctionEnv hcell (fun y hy => by rw [List.mem_singleton.mp hy]; exact hloc) (fun h₁ hns hsb => ⟨hnl.fresh _ hsb, ?_⟩) hk)
  show codeAny _ _ (.expr body (envX qual scope s.heap.objs.size f (.ref c) cl)) _ _
  have hk₁ : ∀ b o, s.heap.get? b = some o → h₁.get? b = some o := fun b o e => hsb.extBut b o (Nat.ne_of_lt (Heap.lt_size e)) (Heap.get?_push_of_some _ e)
  exact kla_codeExpr (wpAny_mono (h h₁ hns hk₁) (fun v s' q => q) fun _ _ q => q.elim)
variable {E : Value → Shared → Prop} {env : Env} {m : Str → Option Value}
/-- xs[place], xs of the closure -/
theorem lam_item {Q : Value → Shared → Prop} {vn : Str} {pn' : Expr} {p1 pos : Pos} {c l : Addr} {its : Array Value} {i : Int} {t : Tok} {u : Value} (hk : env.scope.kind = .function) (hf : env.kindOf vn = some .free) (hc : env.cells.lookup vn = some c) (hcell : s.heap.IsCell c (some (.ref l))) (hl : s.heap.IsList l its)
    (hb : ∀ Q' : Value → Shared → Prop, Q' (.int i t) s → wpAny (model prog w) A (eval pn' env) Q' E s) (h0 : 0 ≤ i) (h63 : i < 2 ^ 63) (hi : its[i.toNat]? = some u) (hs : ∀ o j, subscripted pn' false o j = operate [o, j] (getItem o j)) (hq : Q u s)
    (hd : (vn == ("__debug__" : Str)) = false := by decide) (hcd : (vn == ("__classdict__" : Str)) = false := by decide) :
    wpAny (model prog w) A (eval (.Subscript (.Name vn p1) pn' pos) env) Q E s := by
  refine Subscript_ (wpAny_Name (wpAny_loadName_free hk hf hc hcell (hb _ ?_) hcd) hd)
  exact item_listR hl h0 h63 hi hq (hs _ _)
end
end L2
namespace L2
open PySem PySem.Spec PyProof.Rows PySem.W
theorem triples_snoc {a b : Int} {t u : Tok} {c : Value} : ∀ (l : List Value), TriplesOk l → TriplesOk (l ++ [.int a t, .int b u, c])
  | [], _ => True.intro
  | .int _ _ :: .int _ _ :: _ :: rest, h => triples_snoc rest h
/-- lambda ..: a new function; the table may have grown -/
def tLam (P : Addr) (pos : Pos) (qual : Str) (params : Arguments) (body : Expr) (scope : Scope) (clos : List (Str × Addr)) : TE := fun _ H Q => LamT H P pos qual ∧
  ∀ H' f c, KeepT P H H' → LamT H' P pos qual → H f = none → H' f = some (lamO f qual params body scope clos c) → H' c = some (codeO c qual) → Q (.ref f) H'
theorem pe_lam {X : Cx} {c P : Addr} {qual : Str} {params : Arguments} {body : Expr} {scope : Scope} {clos : List (Str × Addr)} {pos : Pos} (hcode : X.env.code = .ref c) (hC : CodeHd X.base c P) (hBm : Bm X.base X.mg) (hq : X.env.qual ++ ("<lambda>" : Str) = qual)
    (hdef : defaultsOf params X.env = ([], []) := by rfl) (hcl : closureFor scope X.env = pure clos := by rfl) : PE X (.Lambda params body scope pos) (tLam P pos qual params body scope clos) := by
  intro pins s σ H Q I h
  obtain ⟨⟨ps, hP, ht, hor⟩, k⟩ := h
  have oP : s.heap.get? P = some (tabObj ps) := I.hok P _ hP
  have hg : s.heap.Ns mainGlobals X.mg := I.mod.glob.keeps I.bk
  obtain ⟨bm, ob, b1, b2, b3, b4, b5, b6⟩ := hBm
  have b3 := I.bk _ _ b3
  have hgP : mainGlobals ≠ P := fun q => by
    obtain ⟨o, es, ep, e, hd, _⟩ := hg
    rw [q, oP] at e; cases e; cases hd
  have hbP : bm ≠ P := fun q => by
    rw [q, oP] at b3; cases b3; cases b4
  have hbG : bm ≠ mainGlobals := fun q => by
    obtain ⟨o, es, ep, e, hd, _⟩ := hg
    rw [q, e] at b3; cases b3; rw [hd] at b6; cases b6
  have hC' := hC.keeps I.bk
  refine kla_eval hdef ?_
  rw [hq]
  rcases hor with hnf | ⟨c', hf, hc'⟩
  · refine kla_makeFunction (mg := X.mg) hcl I.ok.glob hg hcode hC' oP ht hnf hgP ⟨bm, ob, b1, b2, hbG, hbP, b3, b4, b5, b6⟩ fun c' ctv h' tk hx hge hlt hrec htb => ?_
    have hsz : s.heap.objs.size ≤ h'.objs.size := Nat.le_trans hge (Nat.le_of_lt hlt)
    have hcn : H c' = none := I.hok.fresh hge
    have hfn : H h'.objs.size = none := I.hok.fresh hsz
    have hcP : c' ≠ P := fun z => by rw [z, hP] at hcn; cases hcn
    have hfP : h'.objs.size ≠ P := fun z => by rw [z, hP] at hfn; cases hfn
    have hfc : h'.objs.size ≠ c' := Nat.ne_of_gt hlt
    obtain ⟨c2, oc, vs, t, e2, hoc, hd, hv⟩ := hrec
    cases e2
    have kp : ∀ b o, b ≠ P → s.heap.get? b = some o → (h'.push (kla_obj "<lambda>" qual params body scope clos ((X.mg "__name__").getD .none) c' ctv)).get? b = some o := fun b o n e => Heap.get?_push_of_some _ (hx b o n e)
    generalize hps' : ps ++ #[rawInt pos.line, rawInt pos.col, .ref c'] = ps' at htb
    have hH : ∀ b, b ≠ P → b ≠ c' → b ≠ h'.objs.size → upd (upd (upd H P (.tbl ps')) c' (codeO c' qual)) h'.objs.size (lamO h'.objs.size qual params body scope clos c') b = H b := fun b n1 n2 n3 => by rw [upd_ne n3, upd_ne n2, upd_ne n1]
    have kH : ∀ b o, H b = some o → b ≠ P → upd (upd (upd H P (.tbl ps')) c' (codeO c' qual)) h'.objs.size (lamO h'.objs.size qual params body scope clos c') b = some o := fun b o e n => by
      rw [hH b n (ne_of_none e hcn) (ne_of_none e hfn)]; exact e
    have eP : upd (upd (upd H P (.tbl ps')) c' (codeO c' qual)) h'.objs.size (lamO h'.objs.size qual params body scope clos c') P = some (.tbl ps') := by rw [upd_ne hfP.symm, upd_ne hcP.symm, upd_same]
    have ec : upd (upd (upd H P (.tbl ps')) c' (codeO c' qual)) h'.objs.size (lamO h'.objs.size qual params body scope clos c') c' = some (codeO c' qual) := by rw [upd_ne hfc.symm, upd_same]
    have gP : (h'.push (kla_obj "<lambda>" qual params body scope clos ((X.mg "__name__").getD .none) c' ctv)).get? P = some (tabObj ps') := Heap.get?_push_of_some _ htb
    refine ⟨.ref h'.objs.size, _, I.un (t' := tk) (H' := upd (upd (upd H P (.tbl ps')) c' (codeO c' qual)) h'.objs.size (lamO h'.objs.size qual params body scope clos c')) ⟨fun b o e n _ _ => ?_, fun b o e n _ _ => ?_, fun b o e n _ => ?_, fun b o e _ => ?_, fun b xs e => ?_, fun b o u e => ?_, fun b qs e => ?_⟩ (fun b u e => ?_), rfl, k _ _ c' kH ?_ hfn upd_same ec⟩
    · exact kp b o (fun z => by rw [z, hP] at n; cases n) e
    · exact ⟨o.slots, kp b o (fun z => by rw [z, hP] at n; cases n) e⟩
    · have hlt := Heap.lt_size e
      rw [hH b (fun z => by rw [z, hP] at n; cases n) (Nat.ne_of_lt (Nat.lt_of_lt_of_le hlt hge)) (Nat.ne_of_lt (Nat.lt_of_lt_of_le hlt hsz))]
      exact n
    · by_cases hb : b = P
      · subst hb; exact ⟨_, gP⟩
      · exact ⟨o, kp b o hb e⟩
    · exact kH b _ e (fun z => by rw [z, hP] at e; cases e)
    · exact kH b _ e (fun z => by rw [z, hP] at e; cases e)
    · by_cases hb : b = P
      · subst hb
        rw [hP] at e; cases e
        exact ⟨#[rawInt pos.line, rawInt pos.col, .ref c'], by rw [eP, hps']⟩
      · exact ⟨#[], by rw [kH b _ e hb]; simp⟩
    · by_cases hb : b = P
      · subst hb
        rw [eP] at e; cases e
        exact gP
      · by_cases hb2 : b = c'
        · subst hb2
          rw [ec] at e; cases e
          exact codeO_ok (Heap.get?_push_of_some _ hoc) hd hv
        · by_cases hb3 : b = h'.objs.size
          · subst hb3
            rw [upd_same] at e; cases e
            exact lamO_ok (Heap.get?_push_size _ rfl)
          · rw [hH b hb hb2 hb3] at e
            refine (I.hok b u e).stay (fun d v hd' z => kp d v (fun y => ?_) z) (fun d z => kH d _ z fun y => ?_) fun d xs z => kH d _ z fun y => ?_
            · rcases hd' with hd' | hd'
              · exact hb (hd'.symm.trans y)
              · rw [y, hP] at hd'; cases hd'
            · rw [y, hP] at z; cases z
            · rw [y, hP] at z; cases z
    · refine ⟨ps', eP, ?_, .inr ⟨c', ?_, ec⟩⟩
      · rw [← hps']
        simp only [Array.toList_append]
        exact triples_snoc _ ht
      · rw [← hps']
        simp only [Array.toList_append]
        exact codeAmong_snoc _ ht hnf
  · obtain ⟨⟨oc, vs, t, e1, e2, e3⟩, _, _⟩ : ObjOk X.prog X.w H s.heap c' (codeO c' qual) := I.hok c' _ hc'
    refine kla_makeFunctionHit (mg := X.mg) hcl I.ok.glob hg hcode hC' oP ht hf ⟨bm, ob, b1, b2, hbG, hbP, b3, b4, b5, b6⟩ fun ctv h' tk hk hsz => ?_
    have hfn : H h'.objs.size = none := I.hok.fresh hsz
    refine ⟨.ref h'.objs.size, upd H h'.objs.size (lamO h'.objs.size qual params body scope clos c'), I.laid (t' := tk) (fun b u e => Heap.get?_push_of_some _ (hk b u e)) hsz (lamO_ok (Heap.get?_push_size _ rfl)), rfl, k _ _ c' (fun b o e n => ?_) ⟨ps, ?_, ht, .inr ⟨c', hf, ?_⟩⟩ hfn upd_same ?_⟩
    · rw [upd_ne (ne_of_none e hfn)]; exact e
    · rw [upd_ne (ne_of_none hP hfn)]; exact hP
    · rw [upd_ne (ne_of_none hc' hfn)]; exact hc'
    · rw [upd_ne (ne_of_none hc' hfn)]; exact hc'
end L2
namespace L2
open PySem PySem.Spec PyProof.Rows PySem.W
section
variable {prog : Program} {w : World} {A : Around} {E : Value → Shared → Prop} {s : Shared}
theorem ints_upto {acc : Array Value} {n : Nat} (it : ItemsOf (fun i v => ∃ t, v = Value.int (0 + i * 1) t) acc n) : IntsAre acc.toList ((List.range n).map fun (k : Nat) => (k : Int)) := ints_of_items it
theorem collect_R {r : Addr} {t u v : Tok} {n : Nat} {R : List Value → Shared → Prop} (hh : A.handled = none) (hr : IsRange s.heap r 0 n 1 t u v) (hsmall : Builtin.Range.small 0 n 1 = true) (hn : Builtin.Range.rangeSize 0 n 1 = n) (hlen : n ≤ 2 ^ 24)
    (h : ∀ (h' : Heap) (tk : Nat) (vs : List Value), (∀ b o, s.heap.get? b = some o → h'.get? b = some o) → IntsAre vs ((List.range n).map fun (k : Nat) => (k : Int)) → R vs { s with heap := h', toks := tk }) : wpAny (model prog w) A (collect (.ref r)) R E s := by
  unfold collect
  refine wpAny_bind (wpAny_runValue (codeAny_builtin entry_proto_collect' ?_))
  rw [Around.under_plainId PySem.F.plain_proto_collect _]
  refine wpAny_bind (show wpAny _ A.in1 (newList []) _ _ s from wpAny_newObj_type (wpAny_pure ⟨plainId_quiet PySem.F.plain_list_iadd _, codeAny_builtin entry_list_iadd' ?_⟩))
  rw [Around.under_plainId PySem.F.plain_list_iadd _]
  have g0 : (s.heap.push { cls := .type "list", data := .seq ([] : List Value).toArray }).get? s.heap.objs.size = some { cls := .type "list", data := .seq #[] } := Heap.get?_push_size _ rfl
  show wpAny _ A.in1 (Builtin.List.listExtendWith (.ref s.heap.objs.size) (.ref r) (.ref s.heap.objs.size)) _ _ _
  have key := wpAny_extend_range (prog := prog) (w := w) (A := A) (s := { s with heap := s.heap.push { cls := .type "list", data := .seq ([] : List Value).toArray } }) hh (Heap.get?_push_of_some _ hr) hsmall hn hlen s.heap.objs.size (.ref s.heap.objs.size) _ g0
    (R := fun (q : Result) (s' : Shared) => ∃ (h' : Heap) (tk : Nat) (acc : Array Value) (c : Nat), q = .ok (.ret (.ref s.heap.objs.size)) ∧ s' = { s with heap := h', toks := tk } ∧ (∀ b o, s.heap.get? b = some o → h'.get? b = some o) ∧
      h'.get? s.heap.objs.size = some { cls := .type "list", dict := none, data := .seq acc c, slots := #[] } ∧ IntsAre acc.toList ((List.range n).map fun (k : Nat) => (k : Int)))
    (fun h' tk acc c k g it => ⟨h', tk, acc, c, rfl, rfl, fun b o e => k b o (Nat.ne_of_lt (Heap.lt_size e)) (Heap.get?_push_of_some _ e), g, ints_upto it⟩)
  refine wpAny_mono key (fun fin s' x => ?_) fun e s' x => ?_
  · cases fin with
    | done f =>
      obtain ⟨h', tk, acc, c, e, rfl, k, g, i1⟩ := x
      cases e
      exact (show wpAny _ A (load s.heap.objs.size >>= _) _ _ _ from wpAny_bind (wpAny_load g (wpAny_pure (h h' tk _ k i1))))
    | again c₁ =>
      refine ⟨x.1, codeAny_mono x.2 fun q s₂ y => ?_⟩
      obtain ⟨h', tk, acc, c, rfl, rfl, k, g, i1⟩ := y
      exact (show wpAny _ A (load s.heap.objs.size >>= _) _ _ _ from wpAny_bind (wpAny_load g (wpAny_pure (h h' tk _ k i1))))
  · obtain ⟨_, _, _, _, e', _⟩ := x
    cases e'
variable {h₀ : Heap} {L : Addr} {m : Str → Option Value} {news : List (Addr × Obj)} {Q : Value → Shared → Prop}
theorem sorted_R {r f : Addr} {t u v : Tok} {n : Nat} (g : Int → Int) (hh : A.handled = none) (F : Fr h₀ L s.heap m) (N : News h₀ L s.heap news) (hr : IsRange s.heap r 0 n 1 t u v) (hsmall : Builtin.Range.small 0 n 1 = true) (hn : Builtin.Range.rangeSize 0 n 1 = n) (h64 : n < 64)
    (turn : ∀ (i : Nat) (t : Tok) (h : Heap) (tk : Nat) (own : List (Addr × Obj)), i < n → Fr h₀ L h m → News h₀ L h (news ++ own) →
      wpAny (model prog w) A.in1.in1 (call (.ref f) [.int i t]) (KskEnd h₀ L m (news ++ own) (g i) { s with heap := h, toks := tk }) (fun _ _ => False) { s with heap := h, toks := tk })
    (done : ∀ D out ms c h' tk, Fr h₀ L h' m → News h₀ L h' ((D, seqObj "list" out c) :: news) → s.heap.get? D = none → IntsAre out.toList ms → ms.Perm ((List.range n).map fun (k : Nat) => (k : Int)) → ms.Pairwise (fun x y => g x ≤ g y) → Q (.ref D) { s with heap := h', toks := tk }) :
    wpAny (model prog w) A (call (.builtin "sorted") [.ref r] [(Str.ofString "key", .ref f)]) Q E s := by
  refine call_function_entry_kw kind_sorted plain_sorted entry_sorted (ksk_s1 _ _) ?_
  unfold Builtin.«sorted»
  refine wpAny_bind (m := checkCount "sorted" 1 1 _) (wpAny_pure (wpAny_bind (collect_R (A := A.in1) hh hr hsmall hn (by omega) fun h1 tk1 vs k1 hi => ?_)))
  have hlen : vs.length = n := by rw [hi.length]; simp
  refine wpAny_bind (wpAny_newList ?_ (by rw [hlen, sizeLine_eq]; omega))
  have hoL : (h1.push (seqObj "list" vs.toArray 0)).get? h1.objs.size = some (seqObj "list" vs.toArray 0) := Heap.get?_push_size _ rfl
  have keep : ∀ b o, s.heap.get? b = some o → (h1.push (seqObj "list" vs.toArray 0)).get? b = some o := fun b o q => Heap.get?_push_of_some _ (k1 b o q)
  have F1 : Fr h₀ L h1 m := F.kept k1
  have hL : L < h1.objs.size := F1.ns.lt
  have hs1 : s.heap.get? h1.objs.size = none := by
    cases q : s.heap.get? h1.objs.size with
    | some o => exact absurd (Heap.lt_size (k1 _ _ q)) (Nat.lt_irrefl _)
    | none => rfl
  show wpAny _ _ _ _ _ { s with heap := h1.push (seqObj "list" vs.toArray 0), toks := tk1 }
  refine wpAny_bind (wpAny_holding (wpAny_call_entry_kw slot_list_sort ⟨_, hoL, rfl⟩ entry_list_sort ?body (ksk_l1 _ _)))
  case body =>
    show wpAny (model prog w) A.in1.in1 (Builtin.«list.sort» ⟨[.ref h1.objs.size], [(Str.ofString "key", .ref f)]⟩) _ _ _
    rw [ksk_t1]
    refine ksk_sort (kz := ((List.range n).map fun (k : Nat) => (k : Int)).map g) (b := false) (s := { s with heap := h1.push (seqObj "list" vs.toArray 0), toks := tk1 })
      (F.kept keep) (N.grown keep) hoL (Nat.ne_of_gt hL) (Heap.get?_none_of_le (Nat.le_trans F.above (Nat.le_of_lt hL)))
      (fun p hp => Nat.ne_of_lt (Heap.lt_size (k1 _ _ (N p hp).1))) (by rw [hlen]; simp) (by rw [hlen]; exact h64) (fun i v k hv hk h tk own F' N' => ?_) fun h' tk out c F' N' ko => ⟨_, rfl, ?_⟩
    · have hin : i < n := by
        have := (List.getElem?_eq_some_iff.mp hv).1
        omega
      rw [List.getElem?_map, List.getElem?_map, List.getElem?_eq_getElem (by simpa using hin)] at hk
      simp only [Option.map_some, List.getElem_range] at hk
      cases hk
      obtain ⟨t', ht'⟩ := hi.get i (i : Int) (by rw [List.getElem?_map, List.getElem?_eq_getElem (by simpa using hin)]; simp)
      rw [ht'] at hv
      cases hv
      exact turn i t' h tk own hin F' N'
    · obtain ⟨ps, hp, ho, hs⟩ := ko
      have hrel : ∀ p, p ∈ (((List.range n).map fun (k : Nat) => (k : Int)).map g).zip vs → p.1 = g (numOf p.2) ∧ p.2 ∈ vs := by
        rw [← hi.nums, List.map_map, List.zip_map_left]
        intro p hp
        obtain ⟨⟨u, v⟩, hq, rfl⟩ := List.mem_map.mp hp
        have h1 : u = v ∧ u ∈ vs := mem_zip_self hq
        refine ⟨?_, ?_⟩
        · show g (numOf u) = g (numOf v)
          rw [h1.1]
        · show v ∈ vs
          rw [← h1.1]
          exact h1.2
      have hI : IntsAre (ps.map Prod.snd) ((ps.map Prod.snd).map numOf) := intsAre_map _ fun v hv => by
        obtain ⟨p, hp', rfl⟩ := List.mem_map.mp hv
        exact hi.all _ (hrel p (hp.mem_iff.mp hp')).2
      have hP : ((ps.map Prod.snd).map numOf).Perm ((List.range n).map fun (k : Nat) => (k : Int)) := by
        have h1 := (hp.map Prod.snd).map numOf
        rw [List.map_snd_zip (by rw [List.length_map, ← hi.length]; exact Nat.le_refl _), hi.nums] at h1
        exact h1
      have hO : ((ps.map Prod.snd).map numOf).Pairwise (fun x y => g x ≤ g y) := by
        rw [List.pairwise_map, List.pairwise_map]
        refine hs.imp_of_mem fun {p q} hp' hq' hr => ?_
        have hr' : p.1 ≤ q.1 := hr
        rw [(hrel p (hp.mem_iff.mp hp')).1, (hrel q (hp.mem_iff.mp hq')).1] at hr'
        exact hr'
      rw [← ho] at hI hP hO
      exact wpAny_pure ⟨_, rfl, done _ out _ c h' tk F' N' hs1 hI hP hO⟩
end
end L2
namespace L2
open PySem PySem.Spec PyProof.Rows PySem.W
section
variable {X : Cx} {pins : List (Addr × Obj)} {σ : St} {H : Hp} {s : Shared}
theorem Inv.notL (I : Inv X pins σ H s) {b : Addr} {o : Obj} (e : X.base.get? b = some o) : b ≠ X.env.locals :=
  Nat.ne_of_lt (Nat.lt_of_lt_of_le (Heap.lt_size e) (Nat.le_trans I.ok.bsz I.ok.above))
theorem Inv.laidT {h' : Heap} {t' : Nat} {m : Str → Option Value} {D : Addr} {o : HO} (I : Inv X pins σ H s) (k : ∀ b o, b ≠ X.env.locals → s.heap.get? b = some o → h'.get? b = some o) (hn : h'.Ns X.env.locals m)
    (hv : ∀ (i : Nat) (x : Str) (v : V), X.N[i]? = some x → σ[i]? = some (some v) → Vis X.env.scope x → ∃ u, RelV v u ∧ Look X.env s.heap m x u) (hD : s.heap.get? D = none) (ok : ObjOk X.prog X.w (upd H D o) h' D o) : Inv X pins σ (upd H D o) { s with heap := h', toks := t' } := by
  refine (I.turnedT (t' := t') k hn hv).track (I.hok.none hD) (fun u e => Classical.byContradiction fun z => ?_) (fun z => ?_) (fun x c e z => ?_) (fun p hp z => ?_) ok
  · obtain ⟨u', q⟩ := I.base.there D u e z
    rw [hD] at q; cases q
  · obtain ⟨m, ⟨u, es, ep, hu, _⟩, _⟩ := I.loc
    rw [← z, hD] at hu; cases hu
  · obtain ⟨v, u, hu, _⟩ := I.cell x c e
    rw [z, hD] at hu; cases hu
  · have hu := (I.pin p hp).1
    rw [z, hD] at hu; cases hu
/-- the key f gives the int g n for each n of D, whatever is laid on top -/
def KeyR (X : Cx) (s : Shared) (A : Around) (f : Addr) (D : Int → Prop) (g : Int → Int) : Prop := ∀ (n : Int) (t : Tok) (h : Heap) (tk : Nat), D n → (∀ b o, b ≠ X.env.locals → s.heap.get? b = some o → h.get? b = some o) →
  wpAny (model X.prog X.w) A (call (.ref f) [.int n t]) (fun v s' => ∃ h' tk' t', s' = { s with heap := h', toks := tk' } ∧ v = .int (g n) t' ∧ ∀ b o, h.get? b = some o → h'.get? b = some o) (fun _ _ => False) { s with heap := h, toks := tk }
theorem KeyR.turn {A : Around} {f : Addr} {D : Int → Prop} {g : Int → Int} (kr : KeyR X s A f D g) (I : Inv X pins σ H s) {m : Str → Option Value} {n : Int} {t : Tok} {h : Heap} {tk : Nat} {own : List (Addr × Obj)} (hd : D n) (F : Fr X.base X.env.locals h m) (N : News X.base X.env.locals h (allN s.heap X.base X.env.locals ++ own)) :
    wpAny (model X.prog X.w) A (call (.ref f) [.int n t]) (KskEnd X.base X.env.locals m (allN s.heap X.base X.env.locals ++ own) (g n) { s with heap := h, toks := tk }) (fun _ _ => False) { s with heap := h, toks := tk } := by
  refine wpAny_mono (kr n t h tk hd (allN_keep F (fun p hp => N p (List.mem_append_left _ hp)) I.bk)) (fun v s' q => ?_) fun _ _ q => q
  obtain ⟨h', tk', t', rfl, rfl, k⟩ := q
  exact ⟨h', tk', t', rfl, rfl, F.kept k, fun p hp => ⟨k _ _ (N p hp).1, (N p hp).2⟩⟩
theorem list_notL {l : Addr} {its : Array Value} {m : Str → Option Value} {h : Heap} {L : Addr} (hl : h.IsList l its) (hn : h.Ns L m) : l ≠ L := fun z => by
  obtain ⟨o, es, ep, e, d, _⟩ := hn
  obtain ⟨o', e', _, n, d'⟩ := hl
  rw [z, e] at e'; cases e'
  rw [d] at d'; cases d'
theorem sorted_key {E : Value → Shared → Prop} {Q : Value → Shared → Prop} {r f : Addr} {n : Nat} {g : Int → Int} (I : Inv X pins σ H s) (hc : X.calm = true) (hr : H r = some (.rng 0 n)) (h64 : n < 64) (kr : KeyR X s X.A.in1.in1 f (fun i => 0 ≤ i ∧ i < n) g)
    (h : ∀ (D : Addr) (ms : List Int) s', H D = none → Inv X pins σ (upd H D (.lst (ms.map V.int))) s' → ms.Perm ((List.range n).map fun (k : Nat) => (k : Int)) → ms.Pairwise (fun x y => g x ≤ g y) → Q (.ref D) s') :
    wpAny (model X.prog X.w) X.A (call (.builtin "sorted") [.ref r] [(Str.ofString "key", .ref f)]) Q E s := by
  obtain ⟨m, hn, hv⟩ := I.loc
  have F : Fr X.base X.env.locals s.heap m := ⟨hn, I.bk, Nat.le_trans I.ok.bsz I.ok.above⟩
  have N := allN_news s.heap X.base X.env.locals
  obtain ⟨t, u, v, ho⟩ : ObjOk X.prog X.w H s.heap r (.rng 0 n) := I.hok r _ hr
  have hz : Builtin.Range.rangeSize 0 n 1 = (n : Int) := by
    unfold Builtin.Range.rangeSize
    rw [if_pos (by decide)]
    split <;> omega
  have fl : ∀ k : Int, 0 ≤ k → k ≤ 2000 → Builtin.Range.rangeFitsLong k = true := fun k h1 h2 => by
    have : (2 : Int) ^ 63 = 9223372036854775808 := by decide
    unfold Builtin.Range.rangeFitsLong
    simp only [Bool.and_eq_true, decide_eq_true_eq]
    omega
  have hs : Builtin.Range.small 0 n 1 = true := by
    unfold Builtin.Range.small
    rw [hz, fl 0 (by decide) (by decide), fl n (by omega) (by omega), fl 1 (by decide) (by decide), if_pos (by decide), show (n : Int) + (1 - 1) = n by omega, fl n (by omega) (by omega)]
    simp
  refine sorted_R g (I.ok.hd hc) F N ho hs hz h64 (fun i t h' tk own hi F' N' => kr.turn I ⟨by omega, by omega⟩ F' N') fun D out ms c h' tk F' N' hD hi hp ho' => ?_
  have gD := (N' (D, seqObj "list" out c) (List.mem_cons_self ..)).1
  refine h D ms _ (I.hok.none hD) (I.laidT (t' := tk) (allN_keep F' (fun p hp => N' p (List.mem_cons_of_mem _ hp)) I.bk) F'.ns hv hD ?_) hp ho'
  have hml : ms.length = n := by rw [hp.length_eq]; simp
  exact ⟨by rw [List.length_map, hml, sizeLine_eq]; omega, out.toList, c, vals_of_ints hi, by simpa using gD⟩
/-- what a lambda's scope of one parameter must have -/
structure LamS (params : Arguments) (body : Expr) (scope : Scope) (pn : Str) : Prop where
  bind : ∀ (qual : Str) (cl : List (Str × Addr)) (pm cv ctv v : Value), bindArgs (kla_fn "<lambda>" qual params body scope cl pm cv ctv) ⟨[v], []⟩ = pure [(pn, v)]
  loc : scope.names.lookup pn = some .local
  co : scope.isCoroutine = false
  gen : scope.isGenerator = false
  kd : scope.kind = .function
  nc : ∀ x ∈ scope.names, x.2 ≠ .cell
/-- a variable of the frame that the lambda holds, by its cell -/
theorem lam_cell {vn : Str} {i : Nat} {l : Addr} {clos : List (Str × Addr)} (I : Inv X pins σ H s) (hN : X.N[i]? = some vn) (hσ : σ[i]? = some (some (.ref l))) (hk : X.env.kindOf vn = some .cell) (hcl : ∀ c0, X.env.cells.lookup vn = some c0 → clos.lookup vn = some c0) :
    ∃ c0, clos.lookup vn = some c0 ∧ c0 ≠ X.env.locals ∧ s.heap.IsCell c0 (some (.ref l)) := by
  obtain ⟨m, hn, hv⟩ := I.loc
  obtain ⟨u, r, lk⟩ := hv i vn (.ref l) hN hσ (.inr (.inl hk))
  obtain rfl : u = Value.ref l := r
  rcases lk with ⟨z, _⟩ | ⟨_, c0, e, q⟩
  · rw [hk] at z; cases z
  · exact ⟨c0, hcl c0 e, I.cne vn c0 e, q⟩
end
end L2
namespace L2
open PySem PySem.Spec PyProof.Rows PySem.W
/-! ### min(.., key=lambda ..), sorted(range(..), key=lambda ..) -/
def tMinItem (K : PySem.W.Frag) (i : Nat) (te tl : TE) (qual : Str) (params : Arguments) (body : Expr) (scope : Scope) (clos : List (Str × Addr)) : TE := fun σ H Q => (tCons te tNil) σ H fun vs H1 => (tCons tl tNil) σ H1 fun zs H2 => ∃ x y, vs = [x] ∧ zs = [y] ∧ ∃ (l f c l' : Addr) (ns ks : List Int), x = .ref l ∧ y = .ref f ∧
  H2 f = some (lamO f qual params body scope clos c) ∧ H2 c = some (codeO c qual) ∧ σ[i]? = some (some (.ref l')) ∧ SqL K H2 l (ns.map V.int) ∧ 0 < ns.length ∧ SqL K H2 l' (ks.map V.int) ∧ (∀ n ∈ ns, 0 ≤ n ∧ n < ks.length) ∧
  ∀ (j : Nat) (M : Int), ns[j]? = some M → (∀ (k : Nat) a, ns[k]? = some a → ks.getD M.toNat 0 ≤ ks.getD a.toNat 0 ∧ (k < j → ks.getD M.toNat 0 < ks.getD a.toNat 0)) → Q (.int M) H2
def tSortNeg (K : PySem.W.Frag) (i j : Nat) (te tl : TE) (qual : Str) (params : Arguments) (body : Expr) (scope : Scope) (clos : List (Str × Addr)) : TE := fun σ H Q => (tCons te tNil) σ H fun vs H1 => (tCons tl tNil) σ H1 fun zs H2 => ∃ x y, vs = [x] ∧ zs = [y] ∧ ∃ (r f c l' y' : Addr) (n : Nat) (ks js : List Int), x = .ref r ∧ y = .ref f ∧
  H2 f = some (lamO f qual params body scope clos c) ∧ H2 c = some (codeO c qual) ∧ σ[i]? = some (some (.ref l')) ∧ σ[j]? = some (some (.ref y')) ∧ H2 r = some (.rng 0 n) ∧ n < 64 ∧ SqL K H2 l' (ks.map V.int) ∧ SqL K H2 y' (js.map V.int) ∧ js.length = n ∧ (∀ x ∈ js, 0 ≤ x ∧ x < ks.length) ∧
  ∀ (D : Addr) (ms : List Int), H2 D = none → ms.Perm ((List.range n).map fun (k : Nat) => (k : Int)) → ms.Pairwise (fun a b => - ks.getD (js.getD a.toNat 0).toNat 0 ≤ - ks.getD (js.getD b.toNat 0).toNat 0) → Q (.ref D) (upd H2 D (.lst (ms.map V.int)))
section
variable {X : Cx} {e : Expr} {te tl : TE} {p pos kpos lpos : Pos} {qual : Str} {params : Arguments} {scope : Scope} {clos : List (Str × Addr)} {pn vn un : Str} {p1 p2 p3 q1 q2 q3 : Pos} {i j : Nat}
end
/-- a def whose code's place is told -/
def codeOf (K : PySem.W.Frag) (f : Addr) : Option Value := match K.lookup f with
  | some ⟨_, _, .func fd, _⟩ => some fd.code
  | _ => none
theorem Fun.okC {P : Program} {w : World} {K : PySem.W.Frag} {mg : Str → Option Value} {base : Heap} {x qual : Str} {st : Stmt} {f c : Addr} {fd : FuncData} {N ps : List Str} {k : Nat} {sp : Sp} (F : Fun K x qual st f fd) (hc : codeOf K f = some (.ref c)) (S : FnScope N ps (defScope st)) (len : ∀ vs H Q E, sp vs H Q E → vs.length = ps.length)
    (hbody : ∀ (A : Around) (outer : List Env) (s : Shared) (H : Hp) (vs : List V) (Q : VK) (E : XK), Room k (A.deeper (envOfC qual (defScope st) s.heap.objs.size f (.ref c))) → sp vs H Q E →
      ∃ t, PSs (cxOf CX0 P w K mg base N qual (defScope st) f (.ref c) A outer s H E).nox (defBody st) t ∧ t { nx := fun _ H' => Q .non H', rt := Q } (start N vs) H) : FnOk P w K mg base CX0 (k + 1) f fd ps sp := by
  obtain ⟨oc, od, kV, doc, pm, an, cdv, ct, osl, rfl, lk, hcd⟩ := F.ex
  have e : cdv = .ref c := by
    unfold codeOf at hc
    rw [lk] at hc
    exact Option.some.inj hc
  subst e
  refine fn_of lk hcd S len fun A outer s H vs Q E hr hsp => ?_
  obtain ⟨t, h, q⟩ := hbody A outer s H vs Q E hr hsp
  exact ⟨t, h.nox, q⟩
end L2
namespace L2
open PySem PySem.Spec PyProof.Rows PySem.W
/-! ### the head, with code tables that may grow -/
theorem ty_ne {a b : String} {p : Prop} (h : Value.type a = Value.type b) (n : a ≠ b) : p := absurd (Value.type.inj h) n
theorem law_callT {P : Program} {w : World} {K : PySem.W.Frag} {mg mb : Str → Option Value} {CX : CXT} {k : Nat} {fa a : Addr} {fd : FuncData} {x : Str} {sp : Sp} {s₁ : Shared} {vs : List Value} {ns : List Int} {tabs : List Addr}
    (KX : K.In s₁.heap) (hns : s₁.heap.Ns mainGlobals mg) (hb : s₁.heap.Ns builtinsNs mb) (hbb : ∀ x : Str, x ≠ "__name__" → mb x = bootBuiltins x) (hlim : s₁.heap.NoLimit) (hg : s₁.gens = #[])
    (ha : s₁.heap.get? a = some { cls := .type "list", data := .seq vs.toArray }) (hi : IntsAre vs ns) (hl : ns.length ≤ sizeLine) (hr : Room k callerA) (hT : ∀ b ∈ tabs, s₁.heap.get? b = some (tabObj #[]) ∧ K.lookup b = none ∧ isCodeTable s₁.heap b)
    (F : ∀ base : Heap, K.In base → base.Ns mainGlobals mg → (∀ b o, s₁.heap.get? b = some o → b ∉ tabs → b ≠ a → base.get? b = some o) → FnOk P w K mg base CX k fa fd [x] sp) (hbind : ∀ (s : Shared) (u : Value), BindsTo s fd ⟨[u], []⟩ [(x, u)])
    (hsp : ∀ H : Hp, (∀ b ∈ tabs, H b = some (.tbl #[])) → SqL K H a (ns.map V.int) → sp [.ref a] H (fun v _ => v = .bl true) fun _ _ _ => False)
    (hCX : ∀ H e s', CX [] H s₁ (fun _ _ _ => False) e s' → False) :
    codeAny (model P w) callerA (.call (.ref fa) ⟨[.ref a], []⟩) (fun r s' => r = .ok (.ret (.bool true)) ∧ OldK s₁.heap s'.heap ∧ s'.os = s₁.os ∧ AllBare s'.gens) s₁ := by
  have rv := vals_ints hi
  have lenV := hi.length
  have hTa : ∀ b ∈ tabs, b ≠ a := fun b hb z => by
    have := (hT b hb).1
    rw [z, ha] at this
    cases this
  have core : ∀ H : Hp, SqL K H a (ns.map V.int) → HOk P w H s₁.heap → (∀ b ∈ tabs, H b = some (.tbl #[])) → (∀ b, H b ≠ none → (b = a ∧ ∃ o xs, H b = some (.frz o (.lst xs))) ∨ b ∈ tabs) → (H a ≠ none → K.lookup a = none) →
      codeAny (model P w) callerA (.call (.ref fa) ⟨[.ref a], []⟩) (fun r s' => r = .ok (.ret (.bool true)) ∧ OldK s₁.heap s'.heap ∧ s'.os = s₁.os ∧ AllBare s'.gens) s₁ := by
    intro H hS hok hH hA hK
    have base_of : ∀ {b : Addr} {o : Obj}, s₁.heap.get? b = some o → H b = none → (hidT s₁.heap H).get? b = some o := fun e n => hidT_get e n
    have noA : ∀ {b : Addr} {o : Obj} {es : Array DictEntry} {ep : Nat}, s₁.heap.get? b = some o → o.data = .dict es ep → H b = none := fun {b o es ep} e d => by
      cases q : H b with
      | none => rfl
      | some u =>
        rcases hA b (by rw [q]; simp) with ⟨e', _⟩ | e'
        · subst e'
          rw [ha] at e; cases e
          have d' : Data.seq vs.toArray _ = Data.dict es ep := d
          cases d'
        · rw [(hT b e').1] at e; cases e
          have d' : Data.fields _ = Data.dict es ep := d
          cases d'
    have nsK : ∀ {b : Addr} {m : Str → Option Value}, s₁.heap.Ns b m → (hidT s₁.heap H).Ns b m := fun {b m} ⟨o, es, ep, e, d, r⟩ => ⟨o, es, ep, base_of e (noA e d), d, r⟩
    have hKb : K.In (hidT s₁.heap H) := fun b o e => base_of (KX b o e) (by
      cases q : H b with
      | none => rfl
      | some u =>
        rcases hA b (by rw [q]; simp) with ⟨e', _⟩ | e'
        · subst e'
          rw [hK (by rw [q]; simp)] at e; cases e
        · rw [(hT b e').2.1] at e; cases e)
    have hM : Mod K mg (hidT s₁.heap H) := ⟨hKb, nsK hns, ⟨mb, nsK hb, hbb⟩, let ⟨mc, h1, h2⟩ := hlim; ⟨mc, nsK h1, h2⟩⟩
    have e0 : Env0 P w K mg (hidT s₁.heap H) callerA [] s₁ H := ⟨rfl, hM, fun b o e => of_hidT e, Nat.le_of_eq (hidT_size _ _), trivial, fun b hb => absurd (show b ∈ ([] : List Addr) from hb) (by simp), hok, .of_eq hg⟩
    have hbase : ∀ b o, s₁.heap.get? b = some o → b ∉ tabs → b ≠ a → (hidT s₁.heap H).get? b = some o := fun b o e n1 n2 => base_of e (by
      cases q : H b with
      | none => rfl
      | some u =>
        rcases hA b (by rw [q]; simp) with ⟨e', _⟩ | e'
        · exact absurd e' n2
        · exact absurd e' n1)
    refine codeAny_mono ((F _ hKb (nsK hns) hbase).run callerA [] s₁ H ⟨[.ref a], []⟩ [.ref a] [.ref a] _ _ hr e0 (hbind s₁ (.ref a)) (.cons rfl .nil) (hsp H hH hS)) fun r s' h => ?_
    cases r with
    | error e => exact (hCX H e s' h).elim
    | ok fl =>
      cases fl with
      | next => exact False.elim h
      | brk => exact False.elim h
      | cont => exact False.elim h
      | ret u =>
        obtain ⟨v, H', os, bare, un, hok', r', q⟩ := h
        have q' : v = .bl true := q
        subst q'
        obtain rfl : u = Value.bool true := r'
        have key : ∀ b o, s₁.heap.get? b = some o → s'.heap.get? b = some o ∨ (b ∈ tabs ∧ ∃ more, s'.heap.get? b = some (tabObj more)) := fun b o e => by
          cases q : H b with
          | none => exact .inl (un.keep b o e q (by intro z; exact absurd (show b ∈ ([] : List Addr) from z) (by simp)) (by simp))
          | some u =>
            rcases hA b (by rw [q]; simp) with ⟨_, ob, xs, z⟩ | z
            · have z2 := un.frzs b ob _ z
              obtain ⟨e1, _⟩ := hok b _ z
              obtain ⟨e2, _⟩ := hok' b _ z2
              rw [e] at e1; cases e1
              exact .inl e2
            · obtain ⟨more, z2⟩ := un.tbls b _ (hH b z)
              exact .inr ⟨z, _, hok' b _ z2⟩
        refine ⟨rfl, ⟨fun b o e => ?_, fun b o e => ?_⟩, os, bare⟩
        · rcases key b o e with z | ⟨z, more, z2⟩
          · exact .inl z
          · have e1 := (hT b z).1
            rw [e] at e1; cases e1
            refine .inr (.inl ⟨(hT b z).2.2, rfl, #[], more, rfl, ?_⟩)
            rw [z2]
            simp
        · rcases key b o e with z | ⟨_, _, z⟩
          · exact ⟨_, z⟩
          · exact ⟨_, z⟩
  have tabOk : ∀ {H : Hp} {b : Addr}, b ∈ tabs → ObjOk P w H s₁.heap b (.tbl #[]) := fun {H b} hb => (hT b hb).1
  cases hk : K.lookup a with
  | some o =>
    have e := KX a o hk
    rw [ha] at e
    cases e
    refine core (fun b => if b ∈ tabs then some (.tbl #[]) else none) (.inr ⟨_, vs.toArray, _, hk, rfl, rfl, rfl, by rw [List.size_toArray, lenV]; exact hl, by simpa using rv⟩) (fun b u z => ?_) (fun b hb => if_pos hb) (fun b z => ?_) fun z => ?_
    · by_cases hb : b ∈ tabs
      · have z' := (if_pos hb).symm.trans z
        cases z'
        exact tabOk hb
      · have z' := (if_neg hb).symm.trans z
        cases z'
    · by_cases hb : b ∈ tabs
      · exact .inr hb
      · exact absurd (if_neg hb) z
    · exact absurd (if_neg (fun y => hTa a y rfl)) z
  | none =>
    refine core (fun b => if b = a then some (.frz { cls := .type "list", data := .seq vs.toArray } (.lst (ns.map V.int))) else if b ∈ tabs then some (.tbl #[]) else none) (.inl (.inr ⟨{ cls := .type "list", data := .seq vs.toArray }, if_pos rfl⟩)) (fun b u z => ?_) (fun b hb => by rw [if_neg (hTa b hb), if_pos hb]) (fun b z => ?_) fun _ => hk
    · by_cases hb : b = a
      · have z' := (if_pos hb).symm.trans z
        cases z'
        subst hb
        exact ⟨ha, by rw [List.length_map]; exact hl, vs, _, rv, ha⟩
      · have z' := (if_neg hb).symm.trans z
        by_cases hb2 : b ∈ tabs
        · have z2 := (if_pos hb2).symm.trans z'
          cases z2
          exact tabOk hb2
        · have z2 := (if_neg hb2).symm.trans z'
          cases z2
    · by_cases hb : b = a
      · exact .inl ⟨hb, _, _, if_pos hb⟩
      · by_cases hb2 : b ∈ tabs
        · exact .inr hb2
        · exact absurd ((if_neg hb).trans (if_neg hb2)) z
/-- the tables of defs, by their names: what the top has made -/
theorem tab_facts {q : Program} {loose : List Str} {mean : ExcName → Option Value} {mg mb : Str → Option Value} {h : Heap} {K : PySem.W.Frag} {x : Str} {c P : Addr} (T : Top q loose mean mg mb h) (X : K.In h) (hr : ((recsOf q).find? (fun e => e.name == x)).isSome = true) (ht : tabIn K x = some (c, P)) :
    CodeHd h c P ∧ h.get? P = some (tabObj #[]) ∧ isCodeTable h P := by
  obtain ⟨d, hd⟩ := Option.isSome_iff_exists.mp hr
  obtain ⟨h1, h2⟩ := tab_of T X hd ht
  obtain ⟨o, vs, _, _, _, _, _, _, _, e1, e2, e3, e4, _⟩ := id h1
  exact ⟨h1, h2, c, o, vs, e1, e2, e3, e4⟩
theorem CodeHd.to {h h' : Heap} {c P : Addr} (x : CodeHd h c P) (k : ∀ o, h.get? c = some o → h'.get? c = some o) : CodeHd h' c P := by
  obtain ⟨o, vs, file, tf, flags, tg, inF, text, tt, e, r⟩ := x
  exact ⟨o, vs, file, tf, flags, tg, inF, text, tt, k _ e, r⟩
/-- the walk with two tables -/
theorem walk_ofT {l : PySem.W.OpenLaw} {n k : Nat} {q : Program} {loose : List Str} {XP : (Str → Option Value) → Heap → Prop} {YP : World → Heap → Prop} {d : DefRec} {K : Params → PySem.W.Frag} {sp : World → Sp} {x x1 x2 : Str} {c1 P1 c2 P2 : Addr}
    (hn : l.most = some n) (hn2 : n ≤ sizeLine) (hdf : d.params.defaults = []) (hr : Room k callerA)
    (hY : ∀ (w : World) (h : Heap), YP w h → (K w.params).In h)
    (r1 : ((recsOf q).find? (fun e => e.name == x1)).isSome = true) (r2 : ((recsOf q).find? (fun e => e.name == x2)).isSome = true) (t1 : ∀ w : World, tabIn (K w.params) x1 = some (c1, P1)) (t2 : ∀ w : World, tabIn (K w.params) x2 = some (c2, P2))
    (n1 : ∀ w : World, (K w.params).lookup P1 = none) (n2 : ∀ w : World, (K w.params).lookup P2 = none)
    (F : ∀ (w : World) (mg : Str → Option Value) (fa : Addr) (h : Heap), (K w.params).In h → h.Ns mainGlobals mg → mg d.name = some (.ref fa) →
      ∃ fd : FuncData, (∀ (s : Shared) (u : Value), BindsTo s fd ⟨[u], []⟩ [(x, u)]) ∧
        ∀ base : Heap, (K w.params).In base → base.Ns mainGlobals mg → Bm base mg → CodeHd base c1 P1 → CodeHd base c2 P2 → FnOk l.prog w (K w.params) mg base CX0 k fa fd [x] (sp w))
    (hsp : ∀ (w : World) (H : Hp) (a : Addr) (ns : List Int), ns.length ≤ n → H P1 = some (.tbl #[]) → H P2 = some (.tbl #[]) → SqL (K w.params) H a (ns.map V.int) → sp w [.ref a] H (fun v _ => v = .bl true) fun _ _ _ => False) :
    PySem.W.WalkO q loose XP YP l.row.toRowW d [] (fun f vs => PySem.call f vs) := by
  refine Att.attach_call hn hdf fun w s₀ s₁ mg mb fa o pm cd doc a vs ns G Y ho hd hcd hmg hobj hints hlen hg => ?_
  have KX := hY w _ Y
  obtain ⟨fd, hb, hF⟩ := F w mg fa _ KX G.T.g hmg
  obtain ⟨a1, a2, a3⟩ := tab_facts G.T KX r1 (t1 w)
  obtain ⟨b1, b2, b3⟩ := tab_facts G.T KX r2 (t2 w)
  have tb : ∀ b ∈ [P1, P2], s₁.heap.get? b = some (tabObj #[]) ∧ (K w.params).lookup b = none ∧ isCodeTable s₁.heap b := fun b hb => by
    rcases List.mem_cons.mp hb with rfl | hb
    · exact ⟨a2, n1 w, a3⟩
    · rw [List.mem_singleton.mp hb]; exact ⟨b2, n2 w, b3⟩
  refine law_callT (tabs := [P1, P2]) KX G.T.g G.T.b G.T.builtins G.T.nolimit hg hobj hints (Nat.le_trans hlen hn2) hr tb (fun base kb nb kp => hF base kb nb ?_ ?_ ?_) hb (fun H hH hS => hsp w H a ns hlen (hH P1 (by simp)) (hH P2 (by simp)) hS) fun H e s' z => z
  · obtain ⟨bm, ob, h1, h2, h3, h4, h5⟩ := G.T.bmain
    refine ⟨bm, ob, h1, h2, kp bm ob h3 (fun z => ?_) (fun z => ?_), h4, h5⟩
    · rw [(tb bm z).1] at h3; cases h3; cases h4
    · rw [z, hobj] at h3; cases h3; exact ty_ne h4 (by decide)
  · refine CodeHd.to a1 fun oc e => kp c1 oc e (fun z => ?_) fun z => ?_
    · obtain ⟨o', vs', _, _, _, _, _, _, _, e1, e2, _⟩ := id a1
      rw [(tb c1 z).1] at e1; cases e1; cases e2
    · obtain ⟨o', vs', _, _, _, _, _, _, _, e1, e2, _⟩ := id a1
      rw [z, hobj] at e1; cases e1; exact ty_ne e2 (by decide)
  · refine CodeHd.to b1 fun oc e => kp c2 oc e (fun z => ?_) fun z => ?_
    · obtain ⟨o', vs', _, _, _, _, _, _, _, e1, e2, _⟩ := id b1
      rw [(tb c2 z).1] at e1; cases e1; cases e2
    · obtain ⟨o', vs', _, _, _, _, _, _, _, e1, e2, _⟩ := id b1
      rw [z, hobj] at e1; cases e1; exact ty_ne e2 (by decide)
end L2
namespace L2
open PySem PySem.Spec PyProof.Rows PySem.W
section
variable {prog : Program} {w : World} {A : Around} {s : Shared} {E : Value → Shared → Prop}
/-- a name of the frame -/
theorem fr_name {env : Env} {m : Str → Option Value} {x : Str} {v : Value} {pos : Pos} {Q : Value → Shared → Prop} (hk : env.scope.kind = .function) (hl : env.scope.names.lookup x = some .local) (hn : s.heap.Ns env.locals m) (hm : m x = some v) (h : Q v s) (hd : (x == ("__debug__" : Str)) = false := by decide) :
    wpAny (model prog w) A (eval (.Name x pos) env) Q E s := wpAny_Name (wpAny_loadName_local hk hl hn hm h) hd
/-- road[i], a tuple of the frame, i written -/
theorem fr_end {env : Env} {m : Str → Option Value} {x : Str} {a : Addr} {items : Array Value} {i : Nat} {u : Value} {p1 p2 p3 : Pos} {j : Nat} {Q : Value → Shared → Prop} (hk : env.scope.kind = .function) (hl : env.scope.names.lookup x = some .local) (hn : s.heap.Ns env.locals m) (hm : m x = some (.ref a)) (ht : IsTup s.heap a items) (hz : items.size ≤ sizeLine) (hi : items[i]? = some u)
    (h : ∀ tk, Q u { s with toks := tk }) (hd : (x == ("__debug__" : Str)) = false := by decide) :
    wpAny (model prog w) A (eval (.Subscript (.Name x p1) (.Constant (.int i) j p2) p3) env) Q E s := by
  refine Subscript_ (fr_name hk hl hn hm ?_ hd)
  refine wpAny_Constant_int ?_
  have hlt : i < items.size := by
    have := Array.getElem?_eq_some_iff.mp hi
    exact this.1
  have hn := line63
  refine subscriptTail_builtinR (x := u) (T := "tuple") ht.typeIs slot_tuple_getitem.lookup (getItem_tuple (j := i) (Q := fun r s' => r = u ∧ Q r s') ht (by omega) (by omega) ?_ hi ⟨rfl, h _⟩) (by with_unfolding_all rfl)
  have := PySem.StrLaws.seqIndex_nonneg (i := (i : Int)) (n := items.size) (by omega) (by omega)
  simpa using this
/-- xs[road[i]], a list of the frame -/
theorem fr_far {env : Env} {m : Str → Option Value} {x y : Str} {a l : Addr} {items its : Array Value} {i : Nat} {k : Int} {tk : Tok} {u : Value} {p1 p2 p3 p4 p5 : Pos} {j : Nat} {Q : Value → Shared → Prop} (hk : env.scope.kind = .function) (hl : env.scope.names.lookup x = some .local) (hly : env.scope.names.lookup y = some .local) (hn : s.heap.Ns env.locals m) (hm : m x = some (.ref a)) (hmy : m y = some (.ref l)) (ht : IsTup s.heap a items) (hz : items.size ≤ sizeLine) (hi : items[i]? = some (.int k tk))
    (hL : s.heap.IsList l its) (k0 : 0 ≤ k) (k1 : k < 2 ^ 63) (hu : its[k.toNat]? = some u) (h : ∀ tk, Q u { s with toks := tk }) (hd : (x == ("__debug__" : Str)) = false := by decide) (hdy : (y == ("__debug__" : Str)) = false := by decide) :
    wpAny (model prog w) A (eval (.Subscript (.Name y p4) (.Subscript (.Name x p1) (.Constant (.int i) j p2) p3) p5) env) Q E s := by
  refine Subscript_ (fr_name hk hly hn hmy ?_ hdy)
  refine fr_end hk hl hn hm ht hz hi (fun tk => ?_) hd
  exact item_listR (s := { s with toks := tk }) hL k0 k1 hu (h tk) (by with_unfolding_all rfl)
/-- a def of one row `return e` is called: a frame, then e -/
theorem def_ret {R : Result → Shared → Prop} {f : Addr} {name qual : Str} {params : Arguments} {scope : Scope} {e : Expr} {pos : Pos} {kV doc pm cdv ct oc : Value} {an od : Option Addr} {osl : Array (Option Value)} {binds : List (Str × Value)} {us : List Value} (lk : s.heap.get? f = some ⟨oc, od, .func (PySem.W.fnOf name qual params [.Return (some e) pos] scope .none kV doc pm an cdv ct), osl⟩) (hcd : s.heap.CodeRec cdv qual) (hnl : s.heap.NoLimit) (hroom : A.depth < recursionLimit)
    (hb : bindArgs (PySem.W.fnOf name qual params [.Return (some e) pos] scope .none kV doc pm an cdv ct) ⟨us, []⟩ = pure binds) (hloc : ∀ x ∈ binds, scope.names.lookup x.1 = some .local) (hco : scope.isCoroutine = false) (hgen : scope.isGenerator = false) (hk : scope.kind = .function) (hcell : ∀ x ∈ scope.names, x.2 ≠ .cell)
    (h : ∀ h₁, h₁.Ns s.heap.objs.size (fun y => binds.reverse.lookup y) → (∀ b o, s.heap.get? b = some o → h₁.get? b = some o) →
      wpAny (model prog w) (A.deeper (newEnv scope s.heap.objs.size mainGlobals [] (qual ++ ".<locals>.") (some f) cdv none builtinsNs)) (eval e (newEnv scope s.heap.objs.size mainGlobals [] (qual ++ ".<locals>.") (some f) cdv none builtinsNs)) (fun u s' => R (.ok (.ret u)) s') (fun _ _ => False) { s with heap := h₁, toks := s.toks + binds.length }) :
    codeAny (model prog w) A (.call (.ref f) ⟨us, []⟩) R s := by
  refine codeAny_call_function hroom lk rfl hco hgen rfl hcd ?_
  rw [hb]
  refine wpAny_pure (wpAny_newFunctionEnv hcell hloc (fun h₁ hns hsb => ⟨hnl.fresh _ hsb, codeAny_func ?_⟩) hk)
  have hk₁ : ∀ b o, s.heap.get? b = some o → h₁.get? b = some o := fun b o e => hsb.extBut b o (Nat.ne_of_lt (Heap.lt_size e)) (Heap.get?_push_of_some _ e)
  refine wpAny_execs_cons (wpAny_Return_some (wpAny_mono (h h₁ hns hk₁) (fun v s' q => ?_) fun _ _ q => q.elim))
  exact q
/-- two arguments, written after each other -/
theorem fr_args2 {env : Env} {e1 e2 : Expr} {pos : Pos} {Q : List Value → Shared → Prop} (h : wpAny (model prog w) A (eval e1 env) (fun u s₁ => wpAny (model prog w) A (eval e2 env) (fun v s₂ => Q [u, v] s₂) E s₁) E s)
    (hs : starEach [e1, e2] env = [(false, eval e1 env), (false, eval e2 env)] := by rfl) : wpAny (model prog w) A (spliced (backTo pos (starEach [e1, e2] env))) Q E s := by
  rw [hs]
  show wpAny _ _ (spliced ((false, eval e1 env) :: backTo pos [(false, eval e2 env)])) _ _ s
  refine Calls.spliced_cons (wpAny_mono h (fun u s₁ h₁ => ?_) fun _ _ x => x)
  show wpAny _ _ (spliced ((false, eval e2 env) :: backTo pos [])) _ _ s₁
  exact Calls.spliced_cons (wpAny_mono h₁ (fun v s₂ h₂ => Calls.spliced_nil h₂) fun _ _ x => x)
/-- max(e1, e2) of two ints, in a frame of the module -/
theorem fr_max {env : Env} {mg mb : Str → Option Value} {e1 e2 : Expr} {p pos : Pos} {a b : Int} {ta tb : Tok} {Q : Value → Shared → Prop} (hh : A.handled = none) (hk : env.scope.kind = .function) (hg : env.kindOf "max" = some .globalImplicit) (hn : s.heap.Ns env.globals mg) (hm : mg "max" = none) (hb : s.heap.Ns env.builtins mb) (hv : mb "max" = some (.builtin "max"))
    (h1 : ∀ Q' : Value → Shared → Prop, (∀ tk, Q' (.int a ta) { s with toks := tk }) → wpAny (model prog w) A (eval e1 env) Q' E s) (h2 : ∀ (tk : Nat) (Q' : Value → Shared → Prop), (∀ tk', Q' (.int b tb) { s with toks := tk' }) → wpAny (model prog w) A (eval e2 env) Q' E { s with toks := tk })
    (h : ∀ h' tk t, (∀ c o, s.heap.get? c = some o → h'.get? c = some o) → Q (.int (if b > a then b else a) t) { s with heap := h', toks := tk })
    (he : starEach [e1, e2] env = [(false, eval e1 env), (false, eval e2 env)] := by rfl) (he2 : starEach [e2] env = [(false, eval e2 env)] := by rfl) : wpAny (model prog w) A (eval (.Call (.Name "max" p) [e1, e2] [] pos) env) Q E s := by
  refine wpAny_Call_Name_kw (Calls.Name_function_global hk hg (Calls.loadGlobal_builtin hn hm hb hv ?_))
  refine PyProof.Rows.callWith_builtin1 (fr_args2 (h1 _ fun tk => h2 tk _ fun tk' => ?_) he) ?_ ?_
  · refine max_two_ints hh fun h' tk2 k => ?_
    by_cases c : b > a
    · rw [if_pos c]
      have := h h' tk2 tb k
      rw [if_pos c] at this
      exact this
    · rw [if_neg c]
      have := h h' tk2 ta k
      rw [if_neg c] at this
      exact this
  · rw [he, he2]
  · rw [he2]; rfl
/-- def f(r, x): return max(x[r[0]], x[r[1]]) -/
theorem outer_call {f road l : Addr} {name qual rn ln : Str} {params : Arguments} {scope : Scope} {p0 p1 p2 p3 p4 p5 q1 q2 q3 q4 q5 pc pos : Pos} {j1 j2 : Nat} {kV doc pm cdv ct oc : Value} {an od : Option Addr} {osl : Array (Option Value)} {mg mb : Str → Option Value} {items its : Array Value} {a b da db : Int} {ta tb ua ub : Tok}
    (lk : s.heap.get? f = some ⟨oc, od, .func (PySem.W.fnOf name qual params [.Return (some (.Call (.Name "max" p0) [.Subscript (.Name ln p4) (.Subscript (.Name rn p1) (.Constant (.int (0 : Nat)) j1 p2) p3) p5, .Subscript (.Name ln q4) (.Subscript (.Name rn q1) (.Constant (.int (1 : Nat)) j2 q2) q3) q5] [] pc)) pos] scope .none kV doc pm an cdv ct), osl⟩)
    (hcd : s.heap.CodeRec cdv qual) (hnl : s.heap.NoLimit) (hh : A.handled = none) (hroom : A.depth < recursionLimit)
    (hb : bindArgs (PySem.W.fnOf name qual params [.Return (some (.Call (.Name "max" p0) [.Subscript (.Name ln p4) (.Subscript (.Name rn p1) (.Constant (.int (0 : Nat)) j1 p2) p3) p5, .Subscript (.Name ln q4) (.Subscript (.Name rn q1) (.Constant (.int (1 : Nat)) j2 q2) q3) q5] [] pc)) pos] scope .none kV doc pm an cdv ct) ⟨[.ref road, .ref l], []⟩ = pure [(rn, .ref road), (ln, .ref l)])
    (hr : scope.names.lookup rn = some .local) (hl : scope.names.lookup ln = some .local) (hg : scope.names.lookup ("max" : Str) = some .globalImplicit) (hco : scope.isCoroutine = false) (hgen : scope.isGenerator = false) (hk : scope.kind = .function) (hcell : ∀ x ∈ scope.names, x.2 ≠ .cell) (hne : (rn == ln) = false)
    (hdr : (rn == ("__debug__" : Str)) = false) (hdl : (ln == ("__debug__" : Str)) = false)
    (hn : s.heap.Ns mainGlobals mg) (hm : mg "max" = none) (hbn : s.heap.Ns builtinsNs mb) (hv : mb "max" = some (.builtin "max"))
    (ht : IsTup s.heap road items) (hz : items.size ≤ sizeLine) (ia : items[0]? = some (.int a ta)) (ib : items[1]? = some (.int b tb)) (hL : s.heap.IsList l its) (a0 : 0 ≤ a) (a1 : a < 2 ^ 63) (b0 : 0 ≤ b) (b1 : b < 2 ^ 63) (ea : its[a.toNat]? = some (.int da ua)) (eb : its[b.toNat]? = some (.int db ub)) :
    wpAny (model prog w) A (call (.ref f) [.ref road, .ref l]) (fun v s' => ∃ h' tk' t', s' = { s with heap := h', toks := tk' } ∧ v = .int (if db > da then db else da) t' ∧ ∀ b o, s.heap.get? b = some o → h'.get? b = some o) (fun _ _ => False) s := by
  refine wpAny_call (def_ret lk hcd hnl hroom hb (fun x hx => ?_) hco hgen hk hcell fun h₁ hns k => ?_)
  · rcases List.mem_cons.mp hx with rfl | hx
    · exact hr
    · rw [List.mem_singleton.mp hx]; exact hl
  · have mr : (fun y => ([(rn, Value.ref road), (ln, Value.ref l)] : List (Str × Value)).reverse.lookup y) rn = some (.ref road) := by
      show ([(ln, Value.ref l), (rn, Value.ref road)] : List (Str × Value)).lookup rn = _
      simp [List.lookup, hne]
    have ml : (fun y => ([(rn, Value.ref road), (ln, Value.ref l)] : List (Str × Value)).reverse.lookup y) ln = some (.ref l) := by
      show ([(ln, Value.ref l), (rn, Value.ref road)] : List (Str × Value)).lookup ln = _
      simp [List.lookup]
    have up : ∀ {d : Addr} {o : Obj}, s.heap.get? d = some o → h₁.get? d = some o := fun e => k _ _ e
    have ht' : IsTup h₁ road items := let ⟨o, e, r⟩ := ht; ⟨o, up e, r⟩
    have hL' : h₁.IsList l its := let ⟨o, e, r⟩ := hL; ⟨o, up e, r⟩
    refine fr_max (s := { s with heap := h₁, toks := _ }) hh hk hg (hn.keeps k) hm (hbn.keeps k) hv (fun Q' q => fr_far hk hr hl hns mr ml ht' hz ia hL' a0 a1 ea q hdr hdl) (fun tk Q' q => fr_far (s := { s with heap := h₁, toks := tk }) hk hr hl hns mr ml ht' hz ib hL' b0 b1 eb q hdr hdl) fun h' tk t k' => ?_
    exact ⟨h', tk, t, rfl, rfl, fun c o e => k' c o (k c o e)⟩
end
end L2
namespace L2
open PySem PySem.Spec PyProof.Rows PySem.W
section
variable {X : Cx} {pins : List (Addr × Obj)} {σ : St} {H : Hp} {s : Shared}
theorem pr_get {α β : Type} {F : α → β → Prop} : ∀ {l : List α} {m : List β} {i : Nat} {b : β}, Paired F l m → m[i]? = some b → ∃ a, l[i]? = some a ∧ F a b
  | _, _, _, _, .nil, e => by simp at e
  | _, _, 0, _, .cons r _, e => by simp at e; subst e; exact ⟨_, rfl, r⟩
  | _, _, i + 1, b, .cons _ t, e => by
    obtain ⟨a, h1, h2⟩ := pr_get (i := i) (b := b) t (by simpa using e)
    exact ⟨a, by simpa using h1, h2⟩
theorem key_callG {A : Around} {f c : Addr} {qual : Str} {params : Arguments} {body : Expr} {scope : Scope} {clos : List (Str × Addr)} {pn : Str} {D : Int → Prop} {g : Int → Int} (I : Inv X pins σ H s) (hf : H f = some (lamO f qual params body scope clos c)) (hc : H c = some (codeO c qual)) (hroom : A.depth < recursionLimit) (S : LamS params body scope pn)
    (hb : ∀ (n : Int) (t : Tok) (h : Heap) (L' : Addr) (tk : Nat), D n → (∀ b o, b ≠ X.env.locals → s.heap.get? b = some o → h.get? b = some o) → h.Ns L' (fun y => List.lookup y [(pn, Value.int n t)]) →
      wpAny (model X.prog X.w) (A.deeper (envX qual scope L' f (.ref c) clos)) (eval body (envX qual scope L' f (.ref c) clos)) (fun v s' => ∃ h' tk' t', s' = { s with heap := h', toks := tk' } ∧ v = .int (g n) t' ∧ ∀ b o, h.get? b = some o → h'.get? b = some o) (fun _ _ => False) { s with heap := h, toks := tk }) : KeyR X s A f D g := by
  intro n t h tk hd k
  have nL : ∀ b o, H b = some o → b ≠ X.env.locals := fun b o e z => by rw [z, I.free] at e; cases e
  obtain ⟨⟨pm, ctv, e1⟩, _, _⟩ : ObjOk X.prog X.w H s.heap f (lamO f qual params body scope clos c) := I.hok f _ hf
  obtain ⟨⟨oc, vs, tc, e2, e3, e4⟩, _, _⟩ : ObjOk X.prog X.w H s.heap c (codeO c qual) := I.hok c _ hc
  have nl : h.NoLimit := I.ok.mod.nolimit.keeps fun b o e => k b o (I.notL e) (I.bk b o e)
  refine wpAny_call (lam_call (s := { s with heap := h, toks := tk }) (x := pn) (k f _ (nL f _ hf) e1) ⟨c, oc, vs, tc, rfl, k c _ (nL c _ hc) e2, e3, e4⟩ nl hroom (S.bind _ _ _ _ _ _) S.loc S.co S.gen S.kd S.nc fun h₁ hns hk₁ => ?_)
  refine wpAny_mono (hb n t h₁ h.objs.size (tk + 1) hd (fun b o nb e => hk₁ b o (k b o nb e)) hns) (fun v s' q => ?_) fun _ _ q => q
  obtain ⟨h', tk', t', rfl, rfl, k'⟩ := q
  exact ⟨h', tk', t', rfl, rfl, fun b o e => k' b o (hk₁ b o e)⟩
/-- what the def that the key calls must have: return max(x[r[0]], x[r[1]]) -/
structure OuterS (params : Arguments) (body : List Stmt) (scope : Scope) (rn ln : Str) : Prop where
  shape : ∃ (p0 p1 p2 p3 p4 p5 q1 q2 q3 q4 q5 pc pos : Pos) (j1 j2 : Nat), body = [.Return (some (.Call (.Name "max" p0) [.Subscript (.Name ln p4) (.Subscript (.Name rn p1) (.Constant (.int (0 : Nat)) j1 p2) p3) p5, .Subscript (.Name ln q4) (.Subscript (.Name rn q1) (.Constant (.int (1 : Nat)) j2 q2) q3) q5] [] pc)) pos]
  bind : ∀ (name qual : Str) (kV doc pm cdv ct u v : Value) (an : Option Addr), bindArgs (PySem.W.fnOf name qual params body scope .none kV doc pm an cdv ct) ⟨[u, v], []⟩ = pure [(rn, u), (ln, v)]
  lr : scope.names.lookup rn = some .local
  ll : scope.names.lookup ln = some .local
  lm : scope.names.lookup ("max" : Str) = some .globalImplicit
  co : scope.isCoroutine = false
  gen : scope.isGenerator = false
  kd : scope.kind = .function
  nc : ∀ x ∈ scope.names, x.2 ≠ .cell
  ne : (rn == ln) = false
  dr : (rn == ("__debug__" : Str)) = false
  dl : (ln == ("__debug__" : Str)) = false
/-- lambda place: -fn(xs[place], ys) -/
theorem key_outer {A : Around} {f c fo : Addr} {qual fn nm' qual' rn ln : Str} {params params' : Arguments} {scope scope' : Scope} {body' : List Stmt} {clos : List (Str × Addr)} {pn vn un : Str} {p0 p1 p2 p3 q1 q2 q3 : Pos} {kV doc pm cdv ct oc : Value} {an od : Option Addr} {osl : Array (Option Value)} {i j : Nat} {l y : Addr} {ks : List Int} {as : List Addr} {rd : List (Int × Int × Int)} (I : Inv X pins σ H s)
    (hf : H f = some (lamO f qual params (.UnaryOp .USub (.Call (.Name fn p0) [.Subscript (.Name vn p1) (.Name pn p2) q1, .Name un p3] [] q2) q3) scope clos c)) (hc : H c = some (codeO c qual)) (hh : A.handled = none) (hroom : A.depth < recursionLimit) (hroom2 : (A.depth + 1) < recursionLimit)
    (S : LamS params (.UnaryOp .USub (.Call (.Name fn p0) [.Subscript (.Name vn p1) (.Name pn p2) q1, .Name un p3] [] q2) q3) scope pn) (hfree : scope.names.lookup vn = some .free) (hfree2 : scope.names.lookup un = some .free) (hglob : scope.names.lookup fn = some .globalImplicit) (hN : X.N[i]? = some vn) (hσ : σ[i]? = some (some (.ref l))) (hk : X.env.kindOf vn = some .cell) (hcl : ∀ c0, X.env.cells.lookup vn = some c0 → clos.lookup vn = some c0)
    (hN2 : X.N[j]? = some un) (hσ2 : σ[j]? = some (some (.ref y))) (hk2 : X.env.kindOf un = some .cell) (hcl2 : ∀ c0, X.env.cells.lookup un = some c0 → clos.lookup un = some c0)
    (lk : X.K.lookup fo = some ⟨oc, od, .func (PySem.W.fnOf nm' qual' params' body' scope' .none kV doc pm an cdv ct), osl⟩) (hcd : PySem.W.codeIn X.K cdv qual' = true) (hkp : PySem.W.keepIn X.K (.ref fo) = true) (O : OuterS params' body' scope' rn ln) (hm : X.mg fn = some (.ref fo)) (hmax : X.mg "max" = none) (hbm : bootBuiltins "max" = some (.builtin "max"))
    (hl : SqL X.K H l (as.map V.ref)) (hrd : Paired (fun a (r : Int × Int × Int) => H a = some (.tup [.int r.1, .int r.2.1, .int r.2.2])) as rd) (hy : SqL X.K H y (ks.map V.int)) (hin : ∀ r ∈ rd, (0 ≤ r.1 ∧ r.1 < ks.length) ∧ (0 ≤ r.2.1 ∧ r.2.1 < ks.length))
    (hdv : (vn == ("__debug__" : Str)) = false := by decide) (hcv : (vn == ("__classdict__" : Str)) = false := by decide) (hdu : (un == ("__debug__" : Str)) = false := by decide) (hcu : (un == ("__classdict__" : Str)) = false := by decide) (hdp : (pn == ("__debug__" : Str)) = false := by decide) (hdf : (fn == ("__debug__" : Str)) = false := by decide) :
    KeyR X s A f (fun n => 0 ≤ n ∧ n < rd.length) (fun n => - (let r := rd.getD n.toNat (0, 0, 0); if ks.getD r.2.1.toNat 0 > ks.getD r.1.toNat 0 then ks.getD r.2.1.toNat 0 else ks.getD r.1.toNat 0)) := by
  obtain ⟨c0, k1, k2, o0, k3, k4⟩ := lam_cell I hN hσ hk hcl
  obtain ⟨d0, g1, g2, u0, g3, g4⟩ := lam_cell I hN2 hσ2 hk2 hcl2
  obtain ⟨its, rv, pl, hz⟩ := I.list hl
  obtain ⟨jts, rw', pm', hw⟩ := I.list hy
  obtain ⟨m, hn, _⟩ := I.loc
  have hlL := list_notL pl.isList hn
  have hyL := list_notL pm'.isList hn
  obtain ⟨ol, hol, rl⟩ := pl.isList
  obtain ⟨oy, hoy, ry⟩ := pm'.isList
  have hi2 : IntsAre jts ks := intsAre_of rw'
  obtain ⟨mb, hb1, hb2⟩ := I.mod.blt
  obtain ⟨p0', p1', p2', p3', p4', p5', q1', q2', q3', q4', q5', pc', pos', j1', j2', hbody⟩ := O.shape
  refine key_callG I hf hc hroom S fun n t h L' tk hd k hns => ?_
  have kb : ∀ b o, X.base.get? b = some o → h.get? b = some o := fun b o e => k b o (I.notL e) (I.bk b o e)
  have KX : X.K.In h := I.ok.mod.kin.keeps kb
  have hlen : rd.length = as.length := (Paired.length hrd).symm
  have hnr : rd[n.toNat]? = some (rd.getD n.toNat (0, 0, 0)) := by rw [List.getD_eq_getElem?_getD, List.getElem?_eq_getElem (by omega)]; rfl
  generalize rd.getD n.toNat (0, 0, 0) = r at hnr ⊢
  obtain ⟨ra, rb, rc⟩ := r
  obtain ⟨a, ha, htup⟩ := pr_get hrd hnr
  have nL : ∀ b o, H b = some o → b ≠ X.env.locals := fun b o e z => by rw [z, I.free] at e; cases e
  obtain ⟨u, hu, ru⟩ := rv.get (i := n.toNat) (x := .ref a) (by rw [List.getElem?_map, ha]; rfl)
  obtain rfl : u = Value.ref a := ru
  obtain ⟨tts, tv, ⟨ot, et, rt⟩, tz⟩ := I.tuple (SqT.of htup)
  have htl := tv.length
  obtain ⟨w0, hw0, ⟨t0, rfl⟩⟩ := tv.get (i := 0) (x := .int ra) rfl
  obtain ⟨w1, hw1, ⟨t1, rfl⟩⟩ := tv.get (i := 1) (x := .int rb) rfl
  obtain ⟨⟨a0, a1⟩, b0, b1⟩ := hin _ (List.mem_of_getElem? hnr)
  dsimp only at a0 a1 b0 b1
  obtain ⟨ta, hta⟩ := hi2.get ra.toNat (ks.getD ra.toNat 0) (by rw [List.getD_eq_getElem?_getD, List.getElem?_eq_getElem (by omega)]; rfl)
  obtain ⟨tb, htb⟩ := hi2.get rb.toNat (ks.getD rb.toNat 0) (by rw [List.getD_eq_getElem?_getD, List.getElem?_eq_getElem (by omega)]; rfl)
  have l2 := hi2.length
  have lv := rv.length
  rw [List.length_map] at lv
  rw [List.length_map, sizeLine_eq] at hz hw
  have hal : n.toNat < as.length := (List.getElem?_eq_some_iff.mp ha).1
  refine UnaryOp_ (wpAny_Call_Name_kw (Calls.Name_function_global S.kd hglob (Calls.loadGlobal_global (I.mod.glob.keeps kb) hm ?_) hdf))
  refine PySem.W.callWith_K (h₀ := X.base) I.ok.mod.kin hkp (fr_args2 (lam_item (c := c0) (l := l) (its := its.toArray) (i := n) (t := t) (u := .ref a) S.kd hfree k1 ⟨o0, k c0 o0 k2 k3, k4⟩ ⟨ol, k l ol hlL hol, rl⟩ (fun Q' q => ?_) hd.1 (by omega) (by simpa using hu) (fun _ _ => rfl) (wpAny_Name (wpAny_loadName_free S.kd hfree2 g1 ⟨u0, k d0 u0 g2 g3, g4⟩ ⟨KX, ?_⟩ hcu) hdu) hdv hcv))
  · exact wpAny_Name (wpAny_loadName_local S.kd S.loc hns (by simp [List.lookup]) q) hdp
  · subst hbody
    refine wpAny_mono (outer_call (s := { s with heap := h, toks := tk }) (KX _ _ lk) (PySem.W.codeRec_of KX hcd) (I.ok.mod.nolimit.keeps kb) hh ?_ (O.bind _ _ _ _ _ _ _ _ _ _) O.lr O.ll O.lm O.co O.gen O.kd O.nc O.ne O.dr O.dl (I.mod.glob.keeps kb) hmax (hb1.keeps kb) ((hb2 _ (by decide)).trans hbm) ⟨ot, k a ot (nL a _ htup) et, rt⟩ ?_ (by simpa using hw0) (by simpa using hw1) ⟨oy, k y oy hyL hoy, ry⟩ a0 (by omega) b0 (by omega) (by simpa using hta) (by simpa using htb)) (fun v s' q => ?_) fun _ _ q => q.elim
    · exact hroom2
    · rw [List.size_toArray]; omega
    · obtain ⟨h', tk', t', rfl, rfl, k'⟩ := q
      exact neg_int ⟨h', _, _, rfl, rfl, k'⟩
end
end L2
namespace L2
open PySem PySem.Spec PyProof.Rows PySem.W
/-! ### sorted(range(..), key=lambda place: -fn(xs[place], ys)) -/
/-- the key: the farther end of a road -/
def outK (ks : List Int) (rd : List (Int × Int × Int)) (n : Int) : Int := - (let r := rd.getD n.toNat (0, 0, 0); if ks.getD r.2.1.toNat 0 > ks.getD r.1.toNat 0 then ks.getD r.2.1.toNat 0 else ks.getD r.1.toNat 0)
def tSortOut (K : PySem.W.Frag) (i j : Nat) (te tl : TE) (qual : Str) (params : Arguments) (body : Expr) (scope : Scope) (clos : List (Str × Addr)) : TE := fun σ H Q => (tCons te tNil) σ H fun vs H1 => (tCons tl tNil) σ H1 fun zs H2 => ∃ x y, vs = [x] ∧ zs = [y] ∧ ∃ (r f c l' y' : Addr) (n : Nat) (ks : List Int) (as : List Addr) (rd : List (Int × Int × Int)), x = .ref r ∧ y = .ref f ∧
  H2 f = some (lamO f qual params body scope clos c) ∧ H2 c = some (codeO c qual) ∧ σ[i]? = some (some (.ref l')) ∧ σ[j]? = some (some (.ref y')) ∧ H2 r = some (.rng 0 n) ∧ n < 64 ∧ SqL K H2 l' (as.map V.ref) ∧ Paired (fun a (r : Int × Int × Int) => H2 a = some (.tup [.int r.1, .int r.2.1, .int r.2.2])) as rd ∧ SqL K H2 y' (ks.map V.int) ∧ rd.length = n ∧ (∀ r ∈ rd, (0 ≤ r.1 ∧ r.1 < ks.length) ∧ (0 ≤ r.2.1 ∧ r.2.1 < ks.length)) ∧
  ∀ (D : Addr) (ms : List Int), H2 D = none → ms.Perm ((List.range n).map fun (k : Nat) => (k : Int)) → ms.Pairwise (fun a b => outK ks rd a ≤ outK ks rd b) → Q (.ref D) (upd H2 D (.lst (ms.map V.int)))
section
variable {X : Cx} {e : Expr} {te tl : TE} {p pos kpos lpos : Pos} {params params' : Arguments} {scope scope' : Scope} {body' : List Stmt} {clos : List (Str × Addr)} {fn nm' qual' rn ln pn vn un : Str} {p0 p1 p2 p3 q1 q2 q3 : Pos} {c P fo : Addr} {kV doc pm cdv ct oc : Value} {an od : Option Addr} {osl : Array (Option Value)}
theorem pe_sortOut (qual : Str) (i j : Nat) (hcode : X.env.code = .ref c) (hC : CodeHd X.base c P) (hBm : Bm X.base X.mg) (hq : X.env.qual ++ ("<lambda>" : Str) = qual) (hc : X.calm = true) (hroom : X.A.in1.in1.depth + 1 < recursionLimit) (hg : Gl X "sorted") (hm : X.mg "sorted" = none) (hv : bootBuiltins "sorted" = some (.builtin "sorted")) (he : PE X e te)
    (hclos : closureFor scope X.env = pure clos) (S : LamS params (.UnaryOp .USub (.Call (.Name fn p0) [.Subscript (.Name vn p1) (.Name pn p2) q1, .Name un p3] [] q2) q3) scope pn) (hfree : scope.names.lookup vn = some .free) (hfree2 : scope.names.lookup un = some .free) (hglob : scope.names.lookup fn = some .globalImplicit) (hN : X.N[i]? = some vn) (hk : X.env.kindOf vn = some .cell) (hcl : ∀ c0, X.env.cells.lookup vn = some c0 → clos.lookup vn = some c0)
    (hN2 : X.N[j]? = some un) (hk2 : X.env.kindOf un = some .cell) (hcl2 : ∀ c0, X.env.cells.lookup un = some c0 → clos.lookup un = some c0) (hdef : defaultsOf params X.env = ([], []))
    (lk : X.K.lookup fo = some ⟨oc, od, .func (PySem.W.fnOf nm' qual' params' body' scope' .none kV doc pm an cdv ct), osl⟩) (hcd : PySem.W.codeIn X.K cdv qual' = true) (hkp : PySem.W.keepIn X.K (.ref fo) = true) (O : OuterS params' body' scope' rn ln) (hmf : X.mg fn = some (.ref fo)) (hmax : X.mg "max" = none) (hbm : bootBuiltins "max" = some (.builtin "max"))
    (hst : starEach [e] X.env = (false, eval e X.env) :: starEach [] X.env := by rfl) (hdv : (vn == ("__debug__" : Str)) = false := by decide) (hcv : (vn == ("__classdict__" : Str)) = false := by decide) (hdu : (un == ("__debug__" : Str)) = false := by decide) (hcu : (un == ("__classdict__" : Str)) = false := by decide) (hdp : (pn == ("__debug__" : Str)) = false := by decide) (hdf : (fn == ("__debug__" : Str)) = false := by decide) :
    PE X (.Call (.Name "sorted" p) [e] [⟨some "key", .Lambda params (.UnaryOp .USub (.Call (.Name fn p0) [.Subscript (.Name vn p1) (.Name pn p2) q1, .Name un p3] [] q2) q3) scope lpos, kpos⟩] pos)
      (tSortOut X.K i j te (tLam P lpos qual params (.UnaryOp .USub (.Call (.Name fn p0) [.Subscript (.Name vn p1) (.Name pn p2) q1, .Name un p3] [] q2) q3) scope clos) qual params (.UnaryOp .USub (.Call (.Name fn p0) [.Subscript (.Name vn p1) (.Name pn p2) q1, .Name un p3] [] q2) q3) scope clos) := by
  intro pins s σ H Q I h
  refine wpAny_Call_Name_kw (ld_blt I hg hm hv ?_)
  unfold tSortOut at h
  refine callWith_kw (id := "sorted") (thn ((pa_cons he pa_nil hst) pos pins s σ H _ I h) fun us s1 h1 => ?_) (by rw [hst]; rfl) (by rw [hst]; rfl)
  obtain ⟨vs, H1, I1, r, q⟩ := h1
  refine thn ((pk_cons (pe_lam hcode hC hBm hq hdef hclos) pk_nil) pos pins s1 σ H1 _ I1 q) fun ws s2 h2 => ?_
  obtain ⟨zs, H2, I2, rz, x, y, ex, ey, r', f, c', l', y', n, ks, as, rd, e1, e2, hf, hc', hσ, hσ2, hr, h64, hsk, hpd, hsj, hlen, hin, k⟩ := h2
  subst ex ey e1 e2 hlen
  obtain ⟨u, rfl, ru⟩ := vals1 r
  obtain ⟨v, rfl, rv⟩ := vals1 rz
  cases ru; cases rv
  show wpAny _ _ (call (.builtin "sorted") [.ref r'] [(Str.ofString "key", .ref f)]) _ _ s2
  have kr := key_outer (A := X.A.in1.in1) I2 hf hc' (I2.ok.hd hc) (by omega) hroom S hfree hfree2 hglob hN hσ hk hcl hN2 hσ2 hk2 hcl2 lk hcd hkp O hmf hmax hbm hsk hpd hsj hin hdv hcv hdu hcu hdp hdf
  exact sorted_key I2 hc hr h64 kr fun D ms s' hD I' hp ho => ⟨.ref D, _, I', rfl, k D ms hD hp ho⟩
end
end L2
namespace L2
open PySem PySem.Spec PyProof.Rows
/-! ### a dict whose keys are walked -/
def Itd (a : Addr) (o : Obj) (kvs : List (Key × V)) : It := ⟨fun i H => H a = some (.frz o (.dK kvs)) ∧ i < kvs.length, fun i H x H' => H' = H ∧ ∃ k v, kvs[i]? = some (k, v) ∧ x = kV k, fun i H => H a = some (.frz o (.dK kvs)) ∧ kvs.length ≤ i⟩
def iDict (tl : TE) : TI := fun σ H R => tl σ H fun x H1 => ∃ a kvs, x = .ref a ∧ H1 a = some (.dK kvs) ∧ ∀ o, R (Itd a o kvs) (upd H1 a (.frz o (.dK kvs)))
end L2
namespace L2
open PySem PySem.Spec PyProof.Rows PySem.W
/-! ### x is not True, x is not False; xs[::-1] -/
section
variable {X : Cx}
def tIsNotB (c : Bool) (ta : TE) : TE := fun σ H Q => ta σ H fun x H1 => ∃ b, x = .bl b ∧ Q (.bl (!(b == c))) H1
theorem pc_notB {a : Expr} {ta : TE} {c : Bool} {j} {pos' : Pos} (ha : PE X a ta) : PC X .IsNot a (.Constant (.bool c) j pos') (tIsNotB c ta) := by
  intro pins s σ H Q I h
  refine thn (ha pins s σ H _ I h) fun v s1 hz_ => ?_
  obtain ⟨x, H1, I1, r1, b, e, q1⟩ := hz_
  subst e
  obtain rfl : v = Value.bool b := r1
  exact Constant_bool (wpAny_isNot_plain (by cases b <;> cases c <;> rfl) ⟨.bl _, H1, I1, by cases b <;> cases c <;> rfl, q1⟩)
theorem vals_pick {xs : List V} {its : List Value} (r : Vals xs its) : ∀ ix : List Nat, Vals (ix.filterMap (xs[·]?)) (ix.filterMap (its[·]?))
  | [] => .nil
  | i :: r' => by
    have ih := vals_pick r r'
    rw [List.filterMap_cons, List.filterMap_cons]
    cases e : xs[i]? with
    | none =>
      have : its[i]? = none := by
        rw [List.getElem?_eq_none_iff] at e ⊢
        have := r.length
        omega
      rw [this]; exact ih
    | some x =>
      obtain ⟨u, hu, ru⟩ := r.get e
      rw [hu]; exact .cons ru ih
/-- xs[::-1]: a new list, no more, and nothing but what stood there -/
def tRev (K : PySem.W.Frag) (te : TE) : TE := fun σ H Q => te σ H fun x H1 => ∃ a xs, x = .ref a ∧ SqL K H1 a xs ∧ ∀ p ys, H1 p = none → ys.length ≤ xs.length → (∀ y ∈ ys, y ∈ xs) → Q (.ref p) (upd H1 p (.lst ys))
end
end L2
namespace L2
open PySem PySem.Spec PyProof.Rows PySem.W
/-! ### xs[::-1], all of it -/
theorem back_range (n : Nat) : sliceRange ((n : Int) - 1) (-1) (-1) = (List.range n).map fun k => n - 1 - k := by
  unfold sliceRange
  have e : (if (-1 : Int) > 0 then (if (n : Int) - 1 < -1 then (-1 - ((n : Int) - 1) + -1 - 1) / -1 else 0) else if (n : Int) - 1 > -1 then ((n : Int) - 1 - -1 - -1 - 1) / (- -1) else 0) = n := by
    rw [if_neg (by decide), show (- -1 : Int) = 1 from rfl, Int.ediv_one]
    split <;> omega
  show (List.range (Int.toNat _)).map _ = _
  rw [e, Int.toNat_natCast]
  refine List.map_congr_left fun k hk => ?_
  have := List.mem_range.mp hk
  omega
theorem pick_back {α : Type} (xs : List α) : ((List.range xs.length).map fun k => xs.length - 1 - k).filterMap (xs[·]?) = xs.reverse := by
  rw [List.filterMap_map]
  have : (List.range xs.length).filterMap ((xs[·]?) ∘ fun k => xs.length - 1 - k) = (List.range xs.length).filterMap (xs.reverse[·]?) := by
    have g : ∀ l : List Nat, (∀ k ∈ l, k < xs.length) → l.filterMap ((xs[·]?) ∘ fun k => xs.length - 1 - k) = l.filterMap (xs.reverse[·]?) := fun l => by
      induction l with
      | nil => intro _; rfl
      | cons k r ih =>
        intro h
        have e : ((xs[·]?) ∘ fun k => xs.length - 1 - k) k = xs.reverse[k]? := by
          show xs[xs.length - 1 - k]? = xs.reverse[k]?
          rw [List.getElem?_reverse (h k (List.mem_cons_self ..))]
        rw [List.filterMap_cons, List.filterMap_cons, e, ih fun j hj => h j (List.mem_cons_of_mem _ hj)]
    exact g _ fun k hk => List.mem_range.mp hk
  rw [this]
  have g : ∀ ys : List α, (List.range ys.length).filterMap (ys[·]?) = ys := fun ys => by
    induction ys with
    | nil => rfl
    | cons y r ih =>
      rw [List.length_cons, List.range_succ_eq_map, List.filterMap_cons, List.filterMap_map]
      simp only [List.getElem?_cons_zero]
      congr 1
  have := g xs.reverse
  rw [List.length_reverse] at this
  exact this
section
variable {X : Cx}
def tRevX (K : PySem.W.Frag) (te : TE) : TE := fun σ H Q => te σ H fun x H1 => ∃ a xs, x = .ref a ∧ SqL K H1 a xs ∧ ∀ p, H1 p = none → Q (.ref p) (upd H1 p (.lst xs.reverse))
theorem pe_revX {e : Expr} {te : TE} {j} {q1 q2 p2 pos : Pos} (he : PE X e te) : PE X (.Subscript e (.Slice none none (some (.UnaryOp .USub (.Constant (.int 1) j q1) q2)) p2) pos) (tRevX X.K te) := by
  intro pins s σ H Q I h
  refine Subscript_ (thn (he pins s σ H _ I h) fun v s1 hz_ => ?_)
  obtain ⟨x, H1, I1, r1, a, xs, e1, hx, q1⟩ := hz_
  subst e1
  cases r1
  refine wpAny_Slice ?_
  rw [evalPart_none]
  refine wpAny_pure ?_
  refine wpAny_pure ?_
  refine thn ((po_some (pe_un un_neg pe_int)) pins s1 σ H1 (fun o H2 => o = some (-1) ∧ H2 = H1) I1 ⟨1, rfl, -1, rfl, rfl, rfl⟩) fun vst s3 hz_ => ?_
  obtain ⟨o, H3, I3, ps, eo, eH⟩ := hz_
  subst eo eH
  have I4 : Inv X pins σ H3 { s3 with heap := s3.heap.push { cls := .type "slice", data := .fields #[.none, .none, vst] } } := I3.kept (t' := s3.toks) fun b ob q => Heap.get?_push_of_some _ q
  obtain ⟨its, r, ht, hz⟩ := I4.list hx
  have hlen := r.length
  show wpAny (model X.prog X.w) X.A (subscriptTail e (.Slice none none (some (.UnaryOp .USub (.Constant (.int 1) j _) q2)) p2) (.ref a) (.ref s3.heap.objs.size)) (EP X pins σ Q) X.xe { s3 with heap := s3.heap.push { cls := .type "slice", data := .fields #[.none, .none, vst] } }
  refine tail_any (ops := [.ref a, .ref s3.heap.objs.size]) ht.isList.typeIs slot_list_getitem.lookup ?_ (by with_unfolding_all rfl)
  refine wpAny_getItem_list_slice ht.isList (Heap.IsSliceOf.new ..) .none .none ps (by simp) ?_ (by rw [List.size_toArray]; omega)
  have key : slicePick its.toArray none none (some (-1)) = (its.reverse).toArray := by
    have eb : sliceBounds none none (some (-1)) its.toArray.size = ((its.length : Int) - 1, -1, -1) := rfl
    unfold slicePick
    rw [eb]
    show (List.filterMap (fun x => its.toArray[x]?) (sliceRange ((its.length : Int) - 1) (-1) (-1))).toArray = _
    rw [back_range]
    have := pick_back its
    simpa using this
  rw [key]
  refine ⟨.ref _, _, I4.laid (t' := s3.toks) (o := .lst xs.reverse) (fun b ob q => Heap.get?_push_of_some _ q) (Nat.le_refl _) ?_, rfl, q1 _ (I4.hok.fresh (Nat.le_refl _))⟩
  have rr : Vals xs.reverse its.reverse := by
    have h1 := vals_pick r ((List.range its.length).map fun k => its.length - 1 - k)
    rw [pick_back] at h1
    rw [← hlen, pick_back] at h1
    exact h1
  exact ⟨by rw [List.length_reverse]; exact hz, _, 0, rr, Heap.get?_push_size _ rfl⟩
end
end L2
namespace L2
open PySem PySem.Spec PyProof.Rows PySem.W
open PySem.AutoSeq1 in
theorem extend_tup (l : Addr) (items : Array Value) (n : Nat) (b : Addr) (items2 : Array Value) (n2 : Nat) (o : Obj) (ho : o.cls = .type "tuple") (hd : o.data = .seq items2 n2) (hs0 : ¬(!items.isEmpty && Builtin.List.listTooLong (items.size + items2.size)) = true) (hs1 : items.size ≤ sizeLine) (hs2 : items.size + items2.size ≤ sizeLine + 1) :
    Meets (Builtin.«list.extend» ⟨[.ref l, .ref b], []⟩) (fun _ R s => s.heap.get? l = some { cls := .type "list", dict := none, data := .seq items n, slots := #[] } ∧ s.heap.get? b = some o ∧ R (.ok (.ret Value.none)) { s with heap := s.heap.update l (Obj.mapSeq fun x => x ++ items2), toks := s.toks }) :=
  .of_wp fun prog w A R s h => by
    obtain ⟨oc, od, oe, os'⟩ := o
    cases ho
    cases hd
    obtain ⟨hp, g, d, tk, os⟩ := s; obtain ⟨hl, hb, h⟩ := h; have f1 := idx_int; have f2 := AutoSeq1.sub_tuple_tuple; have f3 := AutoSeq1.sub_list_list; have f4 := AutoSeq1.sub_tuple_list; have f5 := AutoSeq1.sub_list_tuple;
    have hz' : (items ++ items2).size ≤ sizeLine + 1 := by rw [Array.size_append]; exact hs2
    wp_walk using (wpAny_updateSeq hl rfl (hz := hs1) (_hz' := hz')), wpAny_loadPart' hl, wpAny_loadPart' hb; exact ⟨_, rfl, h⟩
end L2
namespace L2
open PySem PySem.Spec PyProof.Rows PySem.W
section
variable {X : Cx}
/-! ### list.extend by a tuple -/
def rExtendT : V → List V → Hp → VK → Prop := fun x vs H Q => ∃ l a xs ys, x = .ref l ∧ vs = [.ref a] ∧ H l = some (.lst xs) ∧ H a = some (.tup ys) ∧ xs.length + ys.length < sizeLine ∧ Q .non (upd H l (.lst (xs ++ ys)))
theorem mt_extendT : MtM X "list.extend" rExtendT := by
  intro pins s σ H x xs v us Q I rx r h
  obtain ⟨l, a, ys, zs, rfl, rfl, hH, ha, hz, q⟩ := h
  cases rx
  obtain ⟨w1, rfl, r1⟩ := vals1 r
  cases r1
  obtain ⟨z, its, n, rv, hl, e⟩ := I.lstM hH
  obtain ⟨jts, rj, o, eo, ec, n2, ed⟩ := I.isTup ha
  have hlen := rv.length
  have hlen2 := rj.length
  refine call_meets PySem.F.slot_list_extend ⟨_, e, rfl⟩ PySem.F.entry_list_extend (PySem.F.args_list_extend_2 _ _)
    (extend_tup l its.toArray n a jts.toArray n2 o ec ed (by
      have : Builtin.List.listTooLong (its.toArray.size + jts.toArray.size) = false := by
        rw [List.size_toArray, List.size_toArray]
        have := line63
        unfold Builtin.List.listTooLong
        simp
        omega
      rw [this]; simp) (by rw [List.size_toArray]; omega) (by rw [List.size_toArray, List.size_toArray]; omega)) ⟨e, eo, ?_⟩
  refine ⟨.non, _, I.lset (t' := s.toks) (its' := its ++ jts) hH e (by simp) (Vals.append rv rj) ?_, rfl, q⟩
  rw [List.length_append]
  omega
end
end L2
namespace WB
open PySem
theorem bt_isinstance : bootBuiltins "isinstance" = some (.builtin "isinstance") := by decide +kernel
theorem bt_int : bootBuiltins "int" = some (.type "int") := by decide +kernel
theorem bt_bool : bootBuiltins "bool" = some (.type "bool") := by decide +kernel
theorem bt_list : bootBuiltins "list" = some (.type "list") := by decide +kernel
theorem bt_tuple : bootBuiltins "tuple" = some (.type "tuple") := by decide +kernel
theorem bt_len : bootBuiltins "len" = some (.builtin "len") := by decide +kernel
theorem bt_all : bootBuiltins "all" = some (.builtin "all") := by decide +kernel
theorem bt_range : bootBuiltins "range" = some (.type "range") := by decide +kernel
theorem bt_min : bootBuiltins "min" = some (.builtin "min") := by decide +kernel
theorem bt_max : bootBuiltins "max" = some (.builtin "max") := by decide +kernel
theorem bt_sorted : bootBuiltins "sorted" = some (.builtin "sorted") := by decide +kernel
theorem bt_set : bootBuiltins "set" = some (.type "set") := by decide +kernel
end WB
namespace WR
open PySem L2
def top (i : Nat) : Stmt := PySem.Challenge.pw_wellroads_k05_whole_pairs_and_posts.main.body.getD i (.Pass ⟨0, 0, 0, 0⟩)
abbrev s_is_number : Stmt := top 6
abbrev s_is_whole : Stmt := top 7
abbrev s_are_below : Stmt := top 8
abbrev s_is_road : Stmt := top 9
abbrev s_is_tree : Stmt := top 10
abbrev s_steps : Stmt := top 11
abbrev s_reached : Stmt := top 12
abbrev s_Tree_init : Stmt := inClass (top 13) 0
abbrev s_Tree_roads : Stmt := inClass (top 13) 1
abbrev s_distances_from : Stmt := top 14
abbrev s_distances : Stmt := top 15
abbrev s_Posts_init : Stmt := inClass (top 21) 0
abbrev s_Posts_shows : Stmt := inClass (top 21) 1
abbrev s_none_meet : Stmt := top 22
abbrev s_all_posted : Stmt := top 23
abbrev s_paired : Stmt := top 24
abbrev s_outer_length : Stmt := top 25
abbrev s_inner_end : Stmt := top 26
abbrev s__law_cell_at : Stmt := top 28
abbrev s__law_draw : Stmt := top 29
abbrev s__law_told : Stmt := top 30
abbrev s__law_name : Stmt := top 31
abbrev s__law_shown : Stmt := top 32
abbrev s__law_rising : Stmt := top 33
abbrev s__law_bent : Stmt := top 34
abbrev s__law_says : Stmt := top 35
abbrev s__law_changed_right : Stmt := top 36
abbrev s_law : Stmt := top 37
set_option genInjectivity false in
set_option genSizeOf false in
structure Adr where
  f_is_number : Addr
  d_is_number : FuncData
  f_is_whole : Addr
  d_is_whole : FuncData
  f_are_below : Addr
  d_are_below : FuncData
  f_is_road : Addr
  d_is_road : FuncData
  f_is_tree : Addr
  d_is_tree : FuncData
  f_steps : Addr
  d_steps : FuncData
  f_reached : Addr
  d_reached : FuncData
  f_Tree_init : Addr
  d_Tree_init : FuncData
  f_Tree_roads : Addr
  d_Tree_roads : FuncData
  f_distances_from : Addr
  d_distances_from : FuncData
  f_distances : Addr
  d_distances : FuncData
  f_Posts_init : Addr
  d_Posts_init : FuncData
  f_Posts_shows : Addr
  d_Posts_shows : FuncData
  f_none_meet : Addr
  d_none_meet : FuncData
  f_all_posted : Addr
  d_all_posted : FuncData
  f_paired : Addr
  d_paired : FuncData
  f_outer_length : Addr
  d_outer_length : FuncData
  f_inner_end : Addr
  d_inner_end : FuncData
  f__law_cell_at : Addr
  d__law_cell_at : FuncData
  f__law_draw : Addr
  d__law_draw : FuncData
  f__law_told : Addr
  d__law_told : FuncData
  f__law_name : Addr
  d__law_name : FuncData
  f__law_shown : Addr
  d__law_shown : FuncData
  f__law_rising : Addr
  d__law_rising : FuncData
  f__law_bent : Addr
  d__law_bent : FuncData
  f__law_says : Addr
  d__law_says : FuncData
  f__law_changed_right : Addr
  d__law_changed_right : FuncData
  f_law : Addr
  d_law : FuncData
  C_RoadError : Addr
  C_BadTree : Addr
  C_Tree : Addr
  C_Answer : Addr
  C_Wells : Addr
  C_Posts : Addr
  k_MOST_VILLAGES : Tok
  k_MOST_LENGTH : Tok
  c_paired : Addr
  P_paired : Addr
structure Txt (K : PySem.W.Frag) (mg : Str → Option Value) (t : Adr) : Prop where
  z_ValueError : mg "ValueError" = none
  z_all : mg "all" = none
  z_bool : mg "bool" = none
  z_int : mg "int" = none
  z_isinstance : mg "isinstance" = none
  z_len : mg "len" = none
  z_list : mg "list" = none
  z_max : mg "max" = none
  z_min : mg "min" = none
  z_range : mg "range" = none
  z_set : mg "set" = none
  z_sorted : mg "sorted" = none
  z_tuple : mg "tuple" = none
  g_MOST_VILLAGES : mg "MOST_VILLAGES" = some (.int 12 t.k_MOST_VILLAGES)
  g_MOST_LENGTH : mg "MOST_LENGTH" = some (.int 1000000 t.k_MOST_LENGTH)
  F_is_number : Fun K "is_number" "is_number" s_is_number t.f_is_number t.d_is_number
  b_is_number : Binds K t.d_is_number ["value"] []
  m_is_number : mg "is_number" = some (.ref t.f_is_number)
  F_is_whole : Fun K "is_whole" "is_whole" s_is_whole t.f_is_whole t.d_is_whole
  b_is_whole : Binds K t.d_is_whole ["value", "least", "most"] []
  m_is_whole : mg "is_whole" = some (.ref t.f_is_whole)
  F_are_below : Fun K "are_below" "are_below" s_are_below t.f_are_below t.d_are_below
  b_are_below : Binds K t.d_are_below ["values", "many"] []
  m_are_below : mg "are_below" = some (.ref t.f_are_below)
  F_is_road : Fun K "is_road" "is_road" s_is_road t.f_is_road t.d_is_road
  b_is_road : Binds K t.d_is_road ["road", "villages"] []
  m_is_road : mg "is_road" = some (.ref t.f_is_road)
  F_is_tree : Fun K "is_tree" "is_tree" s_is_tree t.f_is_tree t.d_is_tree
  b_is_tree : Binds K t.d_is_tree ["villages", "roads"] []
  m_is_tree : mg "is_tree" = some (.ref t.f_is_tree)
  F_steps : Fun K "steps" "steps" s_steps t.f_steps t.d_steps
  b_steps : Binds K t.d_steps ["roads", "village"] []
  m_steps : mg "steps" = some (.ref t.f_steps)
  F_reached : Fun K "reached" "reached" s_reached t.f_reached t.d_reached
  b_reached : Binds K t.d_reached ["roads", "start"] []
  m_reached : mg "reached" = some (.ref t.f_reached)
  F_Tree_init : Fun K "__init__" "Tree.__init__" s_Tree_init t.f_Tree_init t.d_Tree_init
  b_Tree_init : Binds K t.d_Tree_init ["self", "villages", "roads"] []
  M_Tree : Mk K t.C_Tree t.f_Tree_init
  F_Tree_roads : Fun K "roads" "Tree.roads" s_Tree_roads t.f_Tree_roads t.d_Tree_roads
  b_Tree_roads : Binds K t.d_Tree_roads ["self"] []
  M_Tree_roads : Meth K t.C_Tree "roads" t.f_Tree_roads
  F_distances_from : Fun K "distances_from" "distances_from" s_distances_from t.f_distances_from t.d_distances_from
  b_distances_from : Binds K t.d_distances_from ["tree", "village"] []
  m_distances_from : mg "distances_from" = some (.ref t.f_distances_from)
  F_distances : Fun K "distances" "distances" s_distances t.f_distances t.d_distances
  b_distances : Binds K t.d_distances ["tree"] []
  m_distances : mg "distances" = some (.ref t.f_distances)
  F_Posts_init : Fun K "__init__" "Posts.__init__" s_Posts_init t.f_Posts_init t.d_Posts_init
  b_Posts_init : Binds K t.d_Posts_init ["self", "pairs", "posts"] []
  M_Posts : Mk K t.C_Posts t.f_Posts_init
  F_Posts_shows : Fun K "shows" "Posts.shows" s_Posts_shows t.f_Posts_shows t.d_Posts_shows
  b_Posts_shows : Binds K t.d_Posts_shows ["self", "tree", "number"] []
  M_Posts_shows : Meth K t.C_Posts "shows" t.f_Posts_shows
  F_none_meet : Fun K "none_meet" "none_meet" s_none_meet t.f_none_meet t.d_none_meet
  b_none_meet : Binds K t.d_none_meet ["roads"] []
  m_none_meet : mg "none_meet" = some (.ref t.f_none_meet)
  F_all_posted : Fun K "all_posted" "all_posted" s_all_posted t.f_all_posted t.d_all_posted
  b_all_posted : Binds K t.d_all_posted ["roads", "posts"] []
  m_all_posted : mg "all_posted" = some (.ref t.f_all_posted)
  F_paired : Fun K "paired" "paired" s_paired t.f_paired t.d_paired
  b_paired : Binds K t.d_paired ["tree"] []
  m_paired : mg "paired" = some (.ref t.f_paired)
  F_outer_length : Fun K "outer_length" "outer_length" s_outer_length t.f_outer_length t.d_outer_length
  b_outer_length : Binds K t.d_outer_length ["road", "lengths"] []
  m_outer_length : mg "outer_length" = some (.ref t.f_outer_length)
  F_inner_end : Fun K "inner_end" "inner_end" s_inner_end t.f_inner_end t.d_inner_end
  b_inner_end : Binds K t.d_inner_end ["road", "lengths"] []
  m_inner_end : mg "inner_end" = some (.ref t.f_inner_end)
  F__law_cell_at : Fun K "_law_cell_at" "_law_cell_at" s__law_cell_at t.f__law_cell_at t.d__law_cell_at
  b__law_cell_at : Binds K t.d__law_cell_at ["_law_script", "_law_k"] []
  m__law_cell_at : mg "_law_cell_at" = some (.ref t.f__law_cell_at)
  F__law_draw : Fun K "_law_draw" "_law_draw" s__law_draw t.f__law_draw t.d__law_draw
  b__law_draw : Binds K t.d__law_draw ["_law_cell", "_law_k", "_law_many"] []
  m__law_draw : mg "_law_draw" = some (.ref t.f__law_draw)
  F__law_told : Fun K "_law_told" "_law_told" s__law_told t.f__law_told t.d__law_told
  b__law_told : Binds K t.d__law_told ["_law_script", "_law_first", "_law_most"] []
  m__law_told : mg "_law_told" = some (.ref t.f__law_told)
  F__law_name : Fun K "_law_name" "_law_name" s__law_name t.f__law_name t.d__law_name
  b__law_name : Binds K t.d__law_name ["_law_k", "_law_villages", "_law_turn"] []
  m__law_name : mg "_law_name" = some (.ref t.f__law_name)
  F__law_shown : Fun K "_law_shown" "_law_shown" s__law_shown t.f__law_shown t.d__law_shown
  b__law_shown : Binds K t.d__law_shown ["_law_told_here", "_law_pairs", "_law_posts", "_law_many"] []
  m__law_shown : mg "_law_shown" = some (.ref t.f__law_shown)
  F__law_rising : Fun K "_law_rising" "_law_rising" s__law_rising t.f__law_rising t.d__law_rising
  b__law_rising : Binds K t.d__law_rising ["_law_some", "_law_many"] []
  m__law_rising : mg "_law_rising" = some (.ref t.f__law_rising)
  F__law_bent : Fun K "_law_bent" "_law_bent" s__law_bent t.f__law_bent t.d__law_bent
  b__law_bent : Binds K t.d__law_bent ["_law_some", "_law_cell", "_law_many"] []
  m__law_bent : mg "_law_bent" = some (.ref t.f__law_bent)
  F__law_says : Fun K "_law_says" "_law_says" s__law_says t.f__law_says t.d__law_says
  b__law_says : Binds K t.d__law_says ["_law_answer", "_law_tree", "_law_many", "_law_due"] []
  m__law_says : mg "_law_says" = some (.ref t.f__law_says)
  F__law_changed_right : Fun K "_law_changed_right" "_law_changed_right" s__law_changed_right t.f__law_changed_right t.d__law_changed_right
  b__law_changed_right : Binds K t.d__law_changed_right ["_law_told_here", "_law_tree", "_law_found", "_law_more"] []
  m__law_changed_right : mg "_law_changed_right" = some (.ref t.f__law_changed_right)
  F_law : Fun K "law" "law" s_law t.f_law t.d_law
  b_law : Binds K t.d_law ["_law_script"] []
  m_law : mg "law" = some (.ref t.f_law)
  cl_Tree : Cls K t.C_Tree
  m_Tree : mg "Tree" = some (.ref t.C_Tree)
  n_Tree_road_list : NoAttr K t.C_Tree "road_list"
  n_Tree_size : NoAttr K t.C_Tree "size"
  cl_Posts : Cls K t.C_Posts
  m_Posts : mg "Posts" = some (.ref t.C_Posts)
  n_Posts_pairs : NoAttr K t.C_Posts "pairs"
  n_Posts_posts : NoAttr K t.C_Posts "posts"
  m_Answer : mg "Answer" = some (.ref t.C_Answer)
  m_Wells : mg "Wells" = some (.ref t.C_Wells)
  ty_Posts : ∀ {H : Hp} {a dx : Addr} {fs : List (Str × V)}, H a = some (.ins t.C_Posts dx fs) → TyOf K H (.ref a) (.ref t.C_Posts)
  o_Posts_Answer : PySem.W.kitOne K (.ref t.C_Posts) (.ref t.C_Answer) = some true
  o_Posts_Wells : PySem.W.kitOne K (.ref t.C_Posts) (.ref t.C_Wells) = some false
  cd_paired : codeOf K t.f_paired = some (.ref t.c_paired)
structure LamB (base : Heap) (mg : Str → Option Value) (t : Adr) : Prop where
  bm : Bm base mg
  c_paired : PySem.W.CodeHd base t.c_paired t.P_paired
theorem sc_is_number : FnScope ["value"] ["value"] (defScope s_is_number) := ⟨rfl, rfl, rfl, by decide +kernel, rfl, by decide +kernel, by decide +kernel⟩
theorem sc_is_whole : FnScope ["value", "least", "most"] ["value", "least", "most"] (defScope s_is_whole) := ⟨rfl, rfl, rfl, by decide +kernel, rfl, by decide +kernel, by decide +kernel⟩
theorem sc_are_below : FnScope ["values", "many"] ["values", "many"] (defScope s_are_below) := ⟨rfl, rfl, rfl, by decide +kernel, rfl, by decide +kernel, by decide +kernel⟩
theorem sc_is_road : FnScope ["road", "villages", "end"] ["road", "villages"] (defScope s_is_road) := ⟨rfl, rfl, rfl, by decide +kernel, rfl, by decide +kernel, by decide +kernel⟩
theorem sc_is_tree : FnScope ["villages", "roads"] ["villages", "roads"] (defScope s_is_tree) := ⟨rfl, rfl, rfl, by decide +kernel, rfl, by decide +kernel, by decide +kernel⟩
theorem sc_steps : FnScope ["roads", "village", "ends", "first", "second", "length"] ["roads", "village"] (defScope s_steps) := ⟨rfl, rfl, rfl, by decide +kernel, rfl, by decide +kernel, by decide +kernel⟩
theorem sc_reached : FnScope ["roads", "start", "found", "waiting", "here", "there", "length"] ["roads", "start"] (defScope s_reached) := ⟨rfl, rfl, rfl, by decide +kernel, rfl, by decide +kernel, by decide +kernel⟩
theorem sc_Tree_init : FnScope ["self", "villages", "roads"] ["self", "villages", "roads"] (defScope s_Tree_init) := ⟨rfl, rfl, rfl, by decide +kernel, rfl, by decide +kernel, by decide +kernel⟩
theorem sc_Tree_roads : FnScope ["self"] ["self"] (defScope s_Tree_roads) := ⟨rfl, rfl, rfl, by decide +kernel, rfl, by decide +kernel, by decide +kernel⟩
theorem sc_distances_from : FnScope ["tree", "village", "found"] ["tree", "village"] (defScope s_distances_from) := ⟨rfl, rfl, rfl, by decide +kernel, rfl, by decide +kernel, by decide +kernel⟩
theorem sc_Posts_init : FnScope ["self", "pairs", "posts"] ["self", "pairs", "posts"] (defScope s_Posts_init) := ⟨rfl, rfl, rfl, by decide +kernel, rfl, by decide +kernel, by decide +kernel⟩
theorem sc_Posts_shows : FnScope ["self", "tree", "number", "roads"] ["self", "tree", "number"] (defScope s_Posts_shows) := ⟨rfl, rfl, rfl, by decide +kernel, rfl, by decide +kernel, by decide +kernel⟩
theorem sc_none_meet : FnScope ["roads", "ends"] ["roads"] (defScope s_none_meet) := ⟨rfl, rfl, rfl, by decide +kernel, rfl, by decide +kernel, by decide +kernel⟩
theorem sc_all_posted : FnScope ["roads", "posts"] ["roads", "posts"] (defScope s_all_posted) := ⟨rfl, rfl, rfl, by decide +kernel, rfl, by decide +kernel, by decide +kernel⟩
theorem sc_paired : FnScope ["tree", "lengths", "roads", "pairs", "posts", "at"] ["tree"] (defScope s_paired) := ⟨rfl, rfl, rfl, by decide +kernel, rfl, by decide +kernel, by decide +kernel⟩
theorem sc_outer_length : FnScope ["road", "lengths"] ["road", "lengths"] (defScope s_outer_length) := ⟨rfl, rfl, rfl, by decide +kernel, rfl, by decide +kernel, by decide +kernel⟩
theorem sc_inner_end : FnScope ["road", "lengths"] ["road", "lengths"] (defScope s_inner_end) := ⟨rfl, rfl, rfl, by decide +kernel, rfl, by decide +kernel, by decide +kernel⟩
theorem sc__law_cell_at : FnScope ["_law_script", "_law_k"] ["_law_script", "_law_k"] (defScope s__law_cell_at) := ⟨rfl, rfl, rfl, by decide +kernel, rfl, by decide +kernel, by decide +kernel⟩
theorem sc__law_draw : FnScope ["_law_cell", "_law_k", "_law_many", "_law_primes", "_law_blend"] ["_law_cell", "_law_k", "_law_many"] (defScope s__law_draw) := ⟨rfl, rfl, rfl, by decide +kernel, rfl, by decide +kernel, by decide +kernel⟩
theorem sc__law_told : FnScope ["_law_script", "_law_first", "_law_most", "_law_cell", "_law_other", "_law_villages", "_law_greatest", "_law_turn", "_law_roads", "_law_k", "_law_above", "_law_ends", "_law_road"] ["_law_script", "_law_first", "_law_most"] (defScope s__law_told) := ⟨rfl, rfl, rfl, by decide +kernel, rfl, by decide +kernel, by decide +kernel⟩
theorem sc__law_name : FnScope ["_law_k", "_law_villages", "_law_turn"] ["_law_k", "_law_villages", "_law_turn"] (defScope s__law_name) := ⟨rfl, rfl, rfl, by decide +kernel, rfl, by decide +kernel, by decide +kernel⟩
theorem sc__law_shown : FnScope ["_law_told_here", "_law_pairs", "_law_posts", "_law_many", "_law_ends", "_law_at"] ["_law_told_here", "_law_pairs", "_law_posts", "_law_many"] (defScope s__law_shown) := ⟨rfl, rfl, rfl, by decide +kernel, rfl, by decide +kernel, by decide +kernel⟩
theorem sc__law_rising : FnScope ["_law_some", "_law_many", "_law_last", "_law_one"] ["_law_some", "_law_many"] (defScope s__law_rising) := ⟨rfl, rfl, rfl, by decide +kernel, rfl, by decide +kernel, by decide +kernel⟩
theorem sc__law_bent : FnScope ["_law_some", "_law_cell", "_law_many", "_law_made"] ["_law_some", "_law_cell", "_law_many"] (defScope s__law_bent) := ⟨rfl, rfl, rfl, by decide +kernel, rfl, by decide +kernel, by decide +kernel⟩
theorem sc__law_says : FnScope ["_law_answer", "_law_tree", "_law_many", "_law_due", "_law_shown_here"] ["_law_answer", "_law_tree", "_law_many", "_law_due"] (defScope s__law_says) := ⟨rfl, rfl, rfl, by decide +kernel, rfl, by decide +kernel, by decide +kernel⟩
theorem sc__law_changed_right : FnScope ["_law_told_here", "_law_tree", "_law_found", "_law_more", "_law_made", "_law_many"] ["_law_told_here", "_law_tree", "_law_found", "_law_more"] (defScope s__law_changed_right) := ⟨rfl, rfl, rfl, by decide +kernel, rfl, by decide +kernel, by decide +kernel⟩
theorem sc_law : FnScope ["_law_script", "_law_told_here", "_law_tree", "_law_again", "_law_found", "_law_many", "_law_pairs", "_law_posts", "_law_due", "_law_bent_here", "_law_back"] ["_law_script"] (defScope s_law) := ⟨rfl, rfl, rfl, by decide +kernel, rfl, by decide +kernel, by decide +kernel⟩
end WR
namespace WR
open PySem L2
theorem ite_f {c : Bool} {A B : Prop} (e : c = false) (h : B) : if c = true then A else B := by rw [e]; exact iteF h
theorem ite_t {c : Bool} {A B : Prop} (e : c = true) (h : A) : if c = true then A else B := by rw [e]; exact iteT h
/-! ### what isinstance says -/
section
variable {K : PySem.W.Frag}
theorem kit_ii : PySem.W.kitOne K (.type "int") (.type "int") = some true := by rfl
theorem kit_ib : PySem.W.kitOne K (.type "int") (.type "bool") = some false := by rfl
theorem kit_bi : PySem.W.kitOne K (.type "bool") (.type "int") = some true := by rfl
theorem kit_bb : PySem.W.kitOne K (.type "bool") (.type "bool") = some true := by rfl
theorem kit_si : PySem.W.kitOne K (.type "str") (.type "int") = some false := by rfl
theorem kit_ni : PySem.W.kitOne K (.type "NoneType") (.type "int") = some false := by rfl
theorem kit_li : PySem.W.kitOne K (.type "list") (.type "int") = some false := by rfl
theorem kit_ti : PySem.W.kitOne K (.type "tuple") (.type "int") = some false := by rfl
theorem kit_ll : PySem.W.kitOne K (.type "list") (.type "list") = some true := by rfl
theorem kit_tt : PySem.W.kitOne K (.type "tuple") (.type "tuple") = some true := by rfl
end
/-- a whole number between two -/
def wholeV (x : V) (a b : Int) : Bool := match x with
  | .int i => decide (a ≤ i) && decide (i ≤ b)
  | _ => false
/-- kinds of values that are handed in -/
inductive KindV (H : Hp) : V → Prop where
  | int (i : Int) : KindV H (.int i)
  | bl (b : Bool) : KindV H (.bl b)
  | str (x : Str) : KindV H (.str x)
  | non : KindV H .non
  | lst {a : Addr} {xs : List V} (h : H a = some (.lst xs)) : KindV H (.ref a)
  | tup {a : Addr} {xs : List V} (h : H a = some (.tup xs)) : KindV H (.ref a)
/-- a whole number, no truth -/
def numV (x : V) : Bool := match x with
  | .int _ => true
  | _ => false
def sp_is_number : Sp := fun vs H Q _ => ∃ (x : V), vs = [x] ∧ KindV H x ∧ Q (.bl (numV x)) H
def sp_is_whole : Sp := fun vs H Q _ => ∃ (x : V) (a b : Int), vs = [x, .int a, .int b] ∧ KindV H x ∧ Q (.bl (wholeV x a b)) H
section
variable {P : Program} {w : World} {K : PySem.W.Frag} {mg : Str → Option Value} {base : Heap} {t : Adr}
theorem hu8_of {A : Around} {k : Nat} (hr : Room k A) : A.units + 8 < cLine := by have := hr.units; omega
theorem hu9_of {A : Around} {k : Nat} (hr : Room k A) : A.units + 8 + 1 < cLine := by have := hr.units; omega
theorem ok_is_number (TT : Txt K mg t) : FnOk P w K mg base CX0 1 t.f_is_number t.d_is_number ["value"] sp_is_number := by
  refine TT.F_is_number.ok sc_is_number (fun vs H Q E h => ?_) (fun cdv A outer s H vs Q E hr h => ?_)
  · obtain ⟨x, rfl, _⟩ := h
    rfl
  · obtain ⟨x, rfl, hk, q⟩ := h
    refine ⟨_, (pss_one (ps_ret (pe_and (pe_callB call_isinst rfl TT.z_isinstance WB.bt_isinstance (pa_cons (pv 0) (pa_cons (pe_bltn (v := .ty "int") rfl TT.z_int WB.bt_int rfl) pa_nil))) (pe_one (pe_not (pe_callB call_isinst rfl TT.z_isinstance WB.bt_isinstance (pa_cons (pv 0) (pa_cons (pe_bltn (v := .ty "bool") rfl TT.z_bool WB.bt_bool rfl) pa_nil)))))))), ?_⟩
    cases hk with
    | int i => exact ⟨_, rfl, _, "int", .type "int", true, rfl, .int _, kit_ii, true, rfl, iteT ⟨_, rfl, _, "bool", .type "int", false, rfl, .int _, kit_ib, false, rfl, q⟩⟩
    | bl b' => exact ⟨_, rfl, _, "int", .type "bool", true, rfl, .bl _, kit_bi, true, rfl, iteT ⟨_, rfl, _, "bool", .type "bool", true, rfl, .bl _, kit_bb, true, rfl, q⟩⟩
    | str y => exact ⟨_, rfl, _, "int", .type "str", false, rfl, .str _, kit_si, false, rfl, iteF q⟩
    | non => exact ⟨_, rfl, _, "int", .type "NoneType", false, rfl, .non, kit_ni, false, rfl, iteF q⟩
    | lst h => exact ⟨_, rfl, _, "int", .type "list", false, rfl, .lst h, kit_li, false, rfl, iteF q⟩
    | tup h => exact ⟨_, rfl, _, "int", .type "tuple", false, rfl, .tup h, kit_ti, false, rfl, iteF q⟩
theorem ok_is_whole (TT : Txt K mg t) : FnOk P w K mg base CX0 2 t.f_is_whole t.d_is_whole ["value", "least", "most"] sp_is_whole := by
  refine TT.F_is_whole.ok sc_is_whole (fun vs H Q E h => ?_) (fun cdv A outer s H vs Q E hr h => ?_)
  · obtain ⟨x, a, b, rfl, _⟩ := h
    rfl
  · obtain ⟨x, a, b, rfl, hk, q⟩ := h
    refine ⟨_, (pss_one (ps_ret (pe_and (pe_call (ok_is_number TT) (hr.mono (by decide)) rfl TT.m_is_number TT.F_is_number.kp TT.b_is_number .nil pass0 (pa_cons (pv 0) pa_nil)) (pe_one (pe_chain op_le op_le (pv 1) (pv 0) (pv 2)))))), ?_⟩
    refine ⟨_, rfl, x, rfl, hk, _, rfl, ?_⟩
    cases hk with
    | int i =>
      refine iteT ⟨_, rfl, _, rfl, _, _, rfl, rfl, _, rfl, ite2 (fun h1 => ?_) (fun h1 => ?_)⟩
      · refine ⟨_, rfl, _, _, rfl, rfl, ?_⟩
        have e : wholeV (.int i) a b = decide (i ≤ b) := by show (decide (a ≤ i) && decide (i ≤ b)) = _; rw [h1]; rfl
        rw [e] at q; exact q
      · have e : wholeV (.int i) a b = false := by
          show (decide (a ≤ i) && decide (i ≤ b)) = _
          have : decide (a ≤ i) = false := by simpa using h1
          rw [this]; rfl
        rw [e] at q; exact q
    | bl b' => exact iteF q
    | str y => exact iteF q
    | non => exact iteF q
    | lst h => exact iteF q
    | tup h => exact iteF q
end
end WR
namespace WR
open PySem L2
theorem nocut2 (x y z : V) : ¬ (HT.sIx [x, y, z].length 0 none = 0 ∧ HT.sIx [x, y, z].length [x, y, z].length (some 2) = [x, y, z].length) := fun h => absurd h.2 (by show ¬ (2 = 3); decide)
def roadB (n : Int) (r : Road) : Bool := wholeV (.int r.1) 0 (n - 1) && wholeV (.int r.2.1) 0 (n - 1) && !decide (r.1 = r.2.1) && wholeV (.int r.2.2) 1 1000000
def sp_is_road : Sp := fun vs H Q _ => ∃ (p : Addr) (n : Int) (r : Road), vs = [.ref p, .int n] ∧ H p = some (.tup [.int r.1, .int r.2.1, .int r.2.2]) ∧ ∀ H', Same H H' → Q (.bl (roadB n r)) H'
section
variable {P : Program} {w : World} {K : PySem.W.Frag} {mg : Str → Option Value} {base : Heap} {t : Adr}
theorem ok_is_road (TT : Txt K mg t) : FnOk P w K mg base CX0 3 t.f_is_road t.d_is_road ["road", "villages"] sp_is_road := by
  refine TT.F_is_road.ok sc_is_road (fun vs H Q E h => ?_) (fun cdv A outer s H vs Q E hr h => ?_)
  · obtain ⟨p, n, r, rfl, _⟩ := h
    rfl
  · obtain ⟨p, n, ⟨a, b, l⟩, rfl, hp, k⟩ := h
    simp only at hp
    refine ⟨_, (pss_cons (ps_if (PW.pt (pw_or (pt_not (pt_val (pe_callB call_isinst rfl TT.z_isinstance WB.bt_isinstance (pa_cons (pv 0) (pa_cons (pe_bltn (v := .ty "tuple") rfl TT.z_tuple WB.bt_tuple rfl) pa_nil))))) (pw_or1 (pt_cmpR op_ne (pe_callB call_len_seq rfl TT.z_len WB.bt_len (pa_cons (pv 0) pa_nil)) pe_int (nomark _))))) (pss_one (ps_ret pe_bl)) pss_nil) (pss_cons (ps_for PassesOwn.never rfl (pi_tup (pe_slice sl_tup (pv 0) po_none (po_some pe_int))) (pg_name (i := 2) sc_is_road.nd rfl (Or.inl rfl)) (pss_one (ps_if (pt_not (pt_val (pe_call (ok_is_whole TT) (hr.mono (by decide)) rfl TT.m_is_whole TT.F_is_whole.kp TT.b_is_whole .nil pass0 (pa_cons (pv 2) (pa_consC pe_int (pa_consB (pe_op op_sub (pv 1) pe_int) pa_nil)))))) (pss_one (ps_ret pe_bl)) pss_nil))) (pss_one (ps_ret (pe_and (pe_cmpR op_ne (pe_ix ix_tup (pv 0) pe_int (fun _ _ => rfl)) (pe_ix ix_tup (pv 0) pe_int (fun _ _ => rfl)) (nomark _)) (pe_one (pe_call (ok_is_whole TT) (hr.mono (by decide)) rfl TT.m_is_whole TT.F_is_whole.kp TT.b_is_whole .nil pass0 (pa_cons (pe_ix ix_tup (pv 0) pe_int (fun _ _ => rfl)) (pa_consC pe_int (pa_cons (pe_glob (v := .int 1000000) rfl TT.g_MOST_LENGTH ⟨_, rfl⟩) pa_nil)))))))))), ?_⟩
    show let B2 : TS := tRet (tAndV (tOp rNe (tOp (rIxT K) (tVar 0) (tC (V.int 0))) (tOp (rIxT K) (tVar 0) (tC (V.int 1)))) (tCall sp_is_whole [] E0 (tCons (tOp (rIxT K) (tVar 0) (tC (V.int 2))) (tCons (tC (V.int 1)) (tCons (tC (V.int 1000000)) tNil))))); let B1 : TS := tSeq (tFor (iTup K (tSl (rSlT K) (tVar 0) tNoPart (tPart (tC (V.int 2))))) (gName 2) (tIfS (tNot (tB (tCall sp_is_whole [] E0 (tCons (tVar 2) (tCons (tC (V.int 0)) (tCons (tOp (rI0 fun i j => V.int (i - j)) (tVar 1) (tC (V.int 1))) tNil)))))) (tRet (tC (V.bl false))) tNext)) B2; tSeq (tIfS (tOr (tNot (tB (tCB (fun xs H_1 Q => ∃ x n t_1 b, xs = [x, V.ty n] ∧ TyOf K H_1 x t_1 ∧ W.kitOne K t_1 (Value.type n) = some b ∧ Q (V.bl b) H_1) (tCons (tVar 0) (tCons (tC (V.ty "tuple")) tNil))))) (tTest (tOp rNe (tCB (fun xs H_1 Q => ∃ p ys, xs = [V.ref p] ∧ (SqL K H_1 p ys ∨ SqT K H_1 p ys) ∧ Q (V.int ↑(List.length ys)) H_1) (tCons (tVar 0) tNil)) (tC (V.int 3))))) (tRet (tC (V.bl false))) tNext) B1 _ _ _
    intro B2 B1
    -- if not isinstance(road, tuple) or len(road) != 3
    refine ⟨_, rfl, _, "tuple", .type "tuple", true, rfl, .tup hp, kit_tt, true, rfl, iteF ?_⟩
    refine ⟨_, rfl, p, _, rfl, .inr (SqT.of hp), rfl, _, rfl, iteF ?_⟩
    -- for end in road[:2]
    refine ⟨_, rfl, 2, rfl, p, _, rfl, SqT.of hp, nocut2 _ _ _, fun q hq => ?_⟩
    have s1 : Same H (upd H q (.tup [.int a, .int b])) := same_new hq
    refine ⟨q, rfl, ⟨_, SqT.of upd_same⟩, for_tup (K := K) (a := q) (xs := [.int a, .int b]) (fun i σ H2 => (∃ v, σ = [some (.ref p), some (.int n), v]) ∧ H2 = upd H q (.tup [.int a, .int b]) ∧ (0 < i → wholeV (.int a) 0 (n - 1) = true) ∧ (1 < i → wholeV (.int b) 0 (n - 1) = true))
      ⟨⟨none, rfl⟩, rfl, fun h => absurd h (by decide), fun h => absurd h (by decide)⟩ (fun i σ H2 _ ⟨_, e, _⟩ => by rw [e]; exact SqT.of upd_same) ?_ ?_⟩
    · rintro i x σ H2 hi ⟨⟨v, rfl⟩, rfl, w1, w2⟩
      have cases2 : (i = 0 ∧ x = .int a) ∨ (i = 1 ∧ x = .int b) := by
        match i, hi with
        | 0, hi => exact .inl ⟨rfl, (Option.some.inj hi).symm⟩
        | 1, hi => exact .inr ⟨rfl, (Option.some.inj hi).symm⟩
      rcases cases2 with ⟨rfl, rfl⟩ | ⟨rfl, rfl⟩
      · refine ⟨_, rfl, _, rfl, _, _, rfl, rfl, _, _, _, rfl, .int _, _, rfl, ?_⟩
        cases e : wholeV (.int a) 0 (n - 1) with
        | true => exact iteF ⟨⟨_, rfl⟩, rfl, fun _ => rfl, fun h => absurd h (by decide)⟩
        | false =>
          refine iteT ?_
          have : roadB n (a, b, l) = false := by show (wholeV (.int a) 0 (n - 1) && _ && _ && _) = false; rw [e]; rfl
          rw [this] at k
          exact k _ s1
      · refine ⟨_, rfl, _, rfl, _, _, rfl, rfl, _, _, _, rfl, .int _, _, rfl, ?_⟩
        cases e : wholeV (.int b) 0 (n - 1) with
        | true => exact iteF ⟨⟨_, rfl⟩, rfl, fun _ => w1 (by decide), fun _ => rfl⟩
        | false =>
          refine iteT ?_
          have : roadB n (a, b, l) = false := by show (wholeV (.int a) 0 (n - 1) && wholeV (.int b) 0 (n - 1) && _ && _) = false; rw [e, Bool.and_false]; rfl
          rw [this] at k
          exact k _ s1
    · rintro σ H2 ⟨⟨v, rfl⟩, rfl, w1, w2⟩
      have hp2 := s1 _ _ hp
      have e1 := w1 (by show 0 < 2; decide)
      have e2 := w2 (by show 1 < 2; decide)
      -- return road[0] != road[1] and is_whole(road[2], 1, MOST_LENGTH)
      refine ⟨_, rfl, p, _, 0, _, rfl, rfl, SqT.of hp2, atI_nat (j := 0) rfl, _, rfl, p, _, 1, _, rfl, rfl, SqT.of hp2, atI_nat (j := 1) rfl, rfl, _, rfl, ?_⟩
      by_cases ab : a = b
      · have hf : (!decide (V.int a = V.int b)) = false := by rw [ab]; simp
        rw [hf]
        refine iteF ?_
        have : roadB n (a, b, l) = false := by show (wholeV (.int a) 0 (n - 1) && wholeV (.int b) 0 (n - 1) && !decide (a = b) && _) = false; rw [ab]; simp
        rw [this] at k
        exact k _ s1
      · have hf : (!decide (V.int a = V.int b)) = true := by simpa using ab
        rw [hf]
        refine iteT ?_
        refine ⟨_, rfl, p, _, 2, _, rfl, rfl, SqT.of hp2, atI_nat (j := 2) rfl, _, _, _, rfl, .int _, ?_⟩
        have : roadB n (a, b, l) = wholeV (.int l) 1 1000000 := by show (wholeV (.int a) 0 (n - 1) && wholeV (.int b) 0 (n - 1) && !decide (a = b) && _) = _; rw [e1, e2]; simp [ab]
        rw [this] at k
        exact k _ s1
end
end WR
namespace WR
open PySem L2
def sp_steps : Sp := fun vs H Q _ => ∃ (p : Addr) (rs : List Road) (v : Int), vs = [.ref p, .int v] ∧ RoadsAt H p rs ∧ rs.length ≤ 1000 ∧ ∀ q H', H q = none → Same H H' → PairsAt H' q (stepsM rs v) → Q (.ref q) H'
theorem PairsAt.snoc {H : Hp} {q a : Addr} {ps : List (Int × Int)} {xs : List V} {y l : Int} (hq : H q = some (.lst xs)) (hr : Reps H xs (ps.map pairD)) (ha : H a = none) (hH : H' = upd (upd H a (.tup [.int y, .int l])) q (.lst (xs ++ [.ref a]))) : PairsAt H' q (ps ++ [(y, l)]) := by
  subst hH
  have hne : q ≠ a := ne_of_none hq ha
  have k1 : Same H (upd H a (.tup [.int y, .int l])) := same_new ha
  have k2 : ∀ b ys, (upd H a (.tup [.int y, .int l])) b = some (.tup ys) → (upd (upd H a (.tup [.int y, .int l])) q (.lst (xs ++ [.ref a]))) b = some (.tup ys) := fun b ys e => by
    rw [upd_ne]
    · exact e
    · intro z; subst z; rw [k1 _ _ hq] at e; cases e
  refine ⟨_, upd_same, ?_⟩
  rw [List.map_append]
  refine Reps.append (Reps.froz (H := upd H a (.tup [.int y, .int l])) k2 ?_ (hr.keep k1)) (.cons (pairD_mk (k2 _ _ upd_same)) .nil)
  clear hr
  induction ps with
  | nil => unfold List.map Frozs; trivial
  | cons p t ih => rw [List.map_cons]; unfold Frozs; exact ⟨by unfold pairD Froz Frozs Frozs Frozs Froz; simp, ih⟩
section
variable {P : Program} {w : World} {K : PySem.W.Frag} {mg : Str → Option Value} {base : Heap} {t : Adr}
theorem ok_steps (TT : Txt K mg t) : FnOk P w K mg base CX0 1 t.f_steps t.d_steps ["roads", "village"] sp_steps := by
  refine TT.F_steps.ok sc_steps (fun vs H Q E h => ?_) (fun cdv A outer s H vs Q E hr h => ?_)
  · obtain ⟨p, rs, v, rfl, _⟩ := h
    rfl
  · obtain ⟨p, rs, v, rfl, ⟨xs, hp, hxs⟩, hlen, k⟩ := h
    refine ⟨_, (pss_cons (ps_set (i := 2) sc_steps.nd rfl (Or.inl rfl) (pe_lst pa_nil)) (pss_cons (ps_for PassesOwn.never rfl (pi_list (pv 0)) (pg_tup rfl (pgs_cons (pg_name (i := 3) sc_steps.nd rfl (Or.inl rfl)) (pgs_cons (pg_name (i := 4) sc_steps.nd rfl (Or.inl rfl)) (pgs_cons (pg_name (i := 5) sc_steps.nd rfl (Or.inl rfl)) pgs_nil)))) (pss_cons (ps_if (pt_cmpR op_eq (pv 3) (pv 1) (nomark _)) (pss_one (ps_expr (pe_bm PySem.F.plainAttrs_list PySem.F.slot_list_append PySem.F.type_list_append mt_append (pv 2) (pa_cons (pe_tup (pa_cons (pv 4) (pa_cons (pv 5) pa_nil))) pa_nil)))) pss_nil) (pss_one (ps_if (pt_cmpR op_eq (pv 4) (pv 1) (nomark _)) (pss_one (ps_expr (pe_bm PySem.F.plainAttrs_list PySem.F.slot_list_append PySem.F.type_list_append mt_append (pv 2) (pa_cons (pe_tup (pa_cons (pv 3) (pa_cons (pv 5) pa_nil))) pa_nil)))) pss_nil)))) (pss_one (ps_ret (pv 2))))), ?_⟩
    show let B4 : TS := tRet (tVar 2); let B3 : TS := tIfS (tTest (tOp rEq (tVar 4) (tVar 1))) (tDrop (tBM K "list" rAppend (tVar 2) (tCons (tTup (tCons (tVar 3) (tCons (tVar 5) tNil))) tNil))) tNext; let B2 : TS := tSeq (tIfS (tTest (tOp rEq (tVar 3) (tVar 1))) (tDrop (tBM K "list" rAppend (tVar 2) (tCons (tTup (tCons (tVar 4) (tCons (tVar 5) tNil))) tNil))) tNext) B3; let B1 : TS := tSeq (tFor (iList K (tVar 0)) (gTup K (List.length (assignEach [Expr.Name (Str.ofString "first") { line := 32, col := 8, endLine := 32, endCol := 13 }, Expr.Name (Str.ofString "second") { line := 32, col := 15, endLine := 32, endCol := 21 }, Expr.Name (Str.ofString "length") { line := 32, col := 23, endLine := 32, endCol := 29 }] (Cx.env (Cx.nox (cxOf CX0 P w K mg base [Str.ofString "roads", Str.ofString "village", Str.ofString "ends", Str.ofString "first", Str.ofString "second", Str.ofString "length"] (Str.ofString "steps") (defScope s_steps) (Adr.f_steps t) cdv A outer s H E))))) (gCons (gName 3) (gCons (gName 4) (gCons (gName 5) gNil)))) B2) B4; tSeq (tAsg (tLst tNil) (gName 2)) B1 _ _ _
    intro B4 B3 B2 B1
    -- ends = []
    refine ⟨Nat.zero_le _, fun q hq => ?_⟩
    have hlx := hxs.length
    rw [List.length_map] at hlx
    -- for first, second, length in roads
    refine ⟨_, rfl, p, rfl, ⟨_, SqL.of (same_new hq _ _ hp)⟩, for_list (K := K) (a := p) (xs := xs) (fun i σ H2 => (∃ v1 v2 v3, σ = [some (.ref p), some (.int v), some (.ref q), v1, v2, v3]) ∧ Same H H2 ∧ PairsAt H2 q (stepsM (rs.take i) v) ∧ i ≤ rs.length)
      ⟨⟨none, none, none, rfl⟩, same_new hq, ⟨[], upd_same, .nil⟩, Nat.zero_le _⟩ (fun i σ H2 _ ⟨_, e, _⟩ => SqL.of (e _ _ hp)) ?_ ?_⟩
    · rintro i x σ H2 hi ⟨⟨v1, v2, v3, rfl⟩, s2, hE, hil⟩
      obtain ⟨⟨ra, rb, rl⟩, a, hri, rfl, ha⟩ := RoadsAt.get hp hxs hi
      have ha2 := s2 _ _ ha
      have hlt : i < rs.length := (List.getElem?_eq_some_iff.mp hri).1
      refine ⟨a, _, rfl, SqT.of ha2, rfl, _, _, rfl, _, _, rfl, _, _, rfl, rfl, ?_⟩
      -- if first == village: ends.append((second, length))
      have step : ∀ {H3 : Hp} {ps : List (Int × Int)} {y l : Int}, Same H H3 → PairsAt H3 q ps → ps.length ≤ 2000 → ∀ (N : Hp → Prop), (∀ H4, Same H H4 → PairsAt H4 q (ps ++ [(y, l)]) → N H4) →
          (∀ c : Addr, H3 c = none → ∃ l' xs y', V.ref q = .ref l' ∧ [V.ref c] = [y'] ∧ (upd H3 c (.tup [.int y, .int l])) l' = some (.lst xs) ∧ xs.length < sizeLine ∧ N (upd (upd H3 c (.tup [.int y, .int l])) l' (.lst (xs ++ [y'])))) := by
        intro H3 ps y l s3 ⟨ys, hq3, hys⟩ hl3 N hN c hc
        have e1 := hys.length
        rw [List.length_map] at e1
        refine ⟨q, ys, .ref c, rfl, rfl, same_new hc _ _ hq3, by rw [e1, sizeLine_eq]; omega, hN _ (fun b o e => ?_) (PairsAt.snoc hq3 hys hc rfl)⟩
        have hbq : b ≠ q := ne_of_none e hq
        rw [upd_ne hbq]
        exact same_new hc _ _ (s3 _ _ e)
      have hb1 := stepsM_length (rs.take i) v
      rw [List.length_take] at hb1
      have e2 := stepsM_take (v := v) hri
      refine ⟨_, rfl, _, rfl, rfl, _, rfl, ite2 (fun c1 => ?_) (fun c1 => ?_)⟩
      · have c1 : ra = v := by simpa using c1
        obtain ⟨ys, hq2, hys⟩ := hE
        refine ⟨_, rfl, .inl ⟨rfl, _, SqL.of hq2⟩, _, rfl, _, rfl, by show 2 ≤ sizeLine; decide, step s2 ⟨ys, hq2, hys⟩ (by omega) _ fun H4 s4 hE4 => ?_⟩
        -- if second == village: ends.append((first, length))
        refine ⟨_, rfl, _, rfl, rfl, _, rfl, ite2 (fun c2 => ?_) (fun c2 => ?_)⟩
        · have c2 : rb = v := by simpa using c2
          obtain ⟨zs, hq4, hzs⟩ := hE4
          refine ⟨_, rfl, .inl ⟨rfl, _, SqL.of hq4⟩, _, rfl, _, rfl, by show 2 ≤ sizeLine; decide, step s4 ⟨zs, hq4, hzs⟩ (by rw [List.length_append]; simp only [List.length_cons, List.length_nil]; omega) _ fun H5 s5 hE5 => ?_⟩
          refine ⟨⟨_, _, _, rfl⟩, s5, ?_, hlt⟩
          rw [e2]
          simp only [stepsOf, c1, c2, if_true]
          rw [← List.append_assoc]
          simpa [c1, c2] using hE5
        · have c2 : ¬ rb = v := by simpa using c2
          refine ⟨⟨_, _, _, rfl⟩, s4, ?_, hlt⟩
          rw [e2]
          simp only [stepsOf, c1, c2, if_true, if_false, List.append_nil]
          exact hE4
      · have c1 : ¬ ra = v := by simpa using c1
        refine ⟨_, rfl, _, rfl, rfl, _, rfl, ite2 (fun c2 => ?_) (fun c2 => ?_)⟩
        · have c2 : rb = v := by simpa using c2
          obtain ⟨zs, hq4, hzs⟩ := hE
          refine ⟨_, rfl, .inl ⟨rfl, _, SqL.of hq4⟩, _, rfl, _, rfl, by show 2 ≤ sizeLine; decide, step s2 ⟨zs, hq4, hzs⟩ (by omega) _ fun H5 s5 hE5 => ?_⟩
          refine ⟨⟨_, _, _, rfl⟩, s5, ?_, hlt⟩
          rw [e2]
          simp only [stepsOf, c1, c2, if_true, if_false, List.nil_append]
          exact hE5
        · have c2 : ¬ rb = v := by simpa using c2
          refine ⟨⟨_, _, _, rfl⟩, s2, ?_, hlt⟩
          rw [e2]
          simp only [stepsOf, c1, c2, if_false, List.append_nil]
          exact hE
    · rintro σ H2 ⟨⟨v1, v2, v3, rfl⟩, s2, hE, _⟩
      rw [hlx, List.take_length] at hE
      exact ⟨_, rfl, k q H2 hq s2 hE⟩
end
end WR
namespace WR
open PySem L2
/-- the pairs of a dict of ways -/
def Fnd (H : Hp) (kvs : List (Key × V)) (tab : List Ent) : Prop := Paired (fun (kv : Key × V) (e : Ent) => kv.1 = Sum.inl e.1 ∧ Rep H kv.2 (pairD e.2)) kvs tab
theorem froz_pair (p : Int × Int) : Froz (pairD p) := by unfold pairD Froz Frozs Frozs Frozs Froz; simp
theorem Fnd.froz {H H' : Hp} {kvs : List (Key × V)} {tab : List Ent} (h : Fnd H kvs tab) (k : ∀ b xs, H b = some (.tup xs) → H' b = some (.tup xs)) : Fnd H' kvs tab := Paired.mapP h fun _ _ z => ⟨z.1, z.2.froz k (froz_pair _)⟩
theorem Fnd.none {H : Hp} {kvs : List (Key × V)} {tab : List Ent} (h : Fnd H kvs tab) {x : Int} (hx : x ∉ keys tab) : valV kvs (Sum.inl x : Key) = none := by
  unfold Fnd at h
  induction h with
  | nil => rfl
  | cons r t ih =>
    rename_i kv e kvs' tab'
    unfold keys at hx
    rw [List.map_cons, List.mem_cons] at hx
    rw [valV_neg]
    · exact ih fun z => hx (.inr z)
    · rw [r.1]
      intro z
      exact hx (.inl (Sum.inl.inj z).symm)
theorem Fnd.some {H : Hp} {kvs : List (Key × V)} {tab : List Ent} (h : Fnd H kvs tab) {x p d : Int} (nd : (keys tab).Nodup) (hx : (x, p, d) ∈ tab) : ∃ a, valV kvs (Sum.inl x : Key) = Option.some (.ref a) ∧ H a = Option.some (.tup [.int p, .int d]) := by
  unfold Fnd at h
  induction h with
  | nil => simp at hx
  | cons r t ih =>
    rename_i kv e kvs' tab'
    unfold keys at nd
    rw [List.map_cons] at nd
    obtain ⟨n1, n2⟩ := List.nodup_cons.mp nd
    rcases List.mem_cons.mp hx with z | z
    · subst z
      rw [valV_pos r.1]
      obtain ⟨a, e, ha⟩ := pairD_at r.2
      exact ⟨a, by rw [e], ha⟩
    · rw [valV_neg]
      · exact ih n2 z
      · rw [r.1]
        intro q
        exact n1 (List.mem_map.mpr ⟨_, z, (Sum.inl.inj q).symm⟩)
theorem Fnd.length {H : Hp} {kvs : List (Key × V)} {tab : List Ent} (h : Fnd H kvs tab) : kvs.length = tab.length := Paired.length h
theorem Fnd.snoc {H : Hp} {kvs : List (Key × V)} {tab : List Ent} (h : Fnd H kvs tab) {y p d : Int} {a : Addr} (hy : y ∉ keys tab) (ha : H a = Option.some (.tup [.int p, .int d])) : Fnd H (putK kvs (Sum.inl y : Key) (.ref a)) (tab ++ [(y, p, d)]) := by
  rw [putK_new _ (h.none hy)]
  exact Paired.snoc h ⟨rfl, pairD_mk ha⟩
def FoundD (H : Hp) (q : Addr) (tab : List Ent) : Prop := ∃ kvs, H q = some (.dK kvs) ∧ Fnd H kvs tab
theorem FoundD.keep {H H' : Hp} {q : Addr} {tab : List Ent} (k : Same H H') (h : FoundD H q tab) : FoundD H' q tab := let ⟨kvs, h1, h2⟩ := h; ⟨kvs, k _ _ h1, h2.froz fun _ _ e => k _ _ e⟩
def sp_reached : Sp := fun vs H Q _ => ∃ (p : Addr) (rs : List Road) (s : Int), vs = [.ref p, .int s] ∧ RoadsAt H p rs ∧ rs.length ≤ 1000 ∧
  ∀ q tab H', H q = none → Same H H' → FoundD H' q tab → Tab rs s tab → (∀ x ∈ keys tab, Closed rs tab x) → Q (.ref q) H'
theorem PairsAt.get {H : Hp} {ps : List (Int × Int)} {xs : List V} (h : Reps H xs (ps.map pairD)) {i : Nat} {x : V} (hx : xs[i]? = some x) : ∃ r a, ps[i]? = some r ∧ x = .ref a ∧ H a = some (.tup [.int r.1, .int r.2]) := by
  obtain ⟨d, hd, hr⟩ := h.at hx
  rw [List.getElem?_map] at hd
  cases q : ps[i]? with
  | none => rw [q] at hd; cases hd
  | some r =>
    rw [q] at hd
    cases hd
    obtain ⟨a, e, ha⟩ := pairD_at hr
    exact ⟨r, a, rfl, e, ha⟩
theorem last_map {ws : List Int} {h : Int} : ((ws ++ [h]).map V.int)[((ws ++ [h]).map V.int).length - 1]? = some (.int h) := by simp
theorem drop_map {ws : List Int} {h : Int} : ((ws ++ [h]).map V.int).dropLast = ws.map V.int := by simp
theorem nil_or_snoc {α : Type} (l : List α) : l = [] ∨ ∃ r a, l = r ++ [a] := by
  rcases List.eq_nil_or_concat l with h | ⟨r, a, h⟩
  · exact .inl h
  · exact .inr ⟨r, a, by rw [h, List.concat_eq_append]⟩
def reI1 (H : Hp) (p q u : Addr) (rs : List Road) (s : Int) (m : Nat) (σ : St) (H2 : Hp) : Prop := ∃ tab ws kvs v4 v5 v6, σ = [some (.ref p), some (.int s), some (.ref q), some (.ref u), v4, v5, v6] ∧ Same H H2 ∧ H2 q = some (.dK kvs) ∧ Fnd H2 kvs tab ∧ H2 u = some (.lst (ws.map V.int)) ∧ RI rs s tab ws ∧ m = ws.length + 2 * (2 * rs.length + 1 - tab.length) ∧ m ≤ 4 * rs.length + 1
def reI2 (H3 : Hp) (p q u : Addr) (rs : List Road) (s h : Int) (ws' : List Int) (tab : List Ent) (j : Nat) (σ : St) (H4 : Hp) : Prop := ∃ tab2 ws2 kvs2 v5 v6, σ = [some (.ref p), some (.int s), some (.ref q), some (.ref u), some (.int h), v5, v6] ∧ (∀ b o, b ≠ q → b ≠ u → H3 b = some o → H4 b = some o) ∧ H4 q = some (.dK kvs2) ∧ Fnd H4 kvs2 tab2 ∧ H4 u = some (.lst (ws2.map V.int)) ∧ RJ rs s h j tab2 ws2 ∧ ws2.length + 2 * (2 * rs.length + 1 - tab2.length) < (ws' ++ [h]).length + 2 * (2 * rs.length + 1 - tab.length)
section
variable {P : Program} {w : World} {K : PySem.W.Frag} {mg : Str → Option Value} {base : Heap} {t : Adr}
theorem ok_reached (TT : Txt K mg t) : FnOk P w K mg base CX0 2 t.f_reached t.d_reached ["roads", "start"] sp_reached := by
  refine TT.F_reached.ok sc_reached (fun vs H Q E h => ?_) (fun cdv A outer sh H vs Q E hr h => ?_)
  · obtain ⟨p, rs, s, rfl, _⟩ := h
    rfl
  · obtain ⟨p, rs, s, rfl, hR, hlen, k⟩ := h
    have hu := hu_of hr
    refine ⟨_, (pss_cons (ps_set (i := 2) sc_reached.nd rfl (Or.inl rfl) (pe_disp (pps_cons (pv 1) (pe_tup (pa_cons (pv 1) (pa_consC pe_int pa_nil))) pps_nil) rfl rfl (fun h => nomatch h) (by decide))) (pss_cons (ps_set (i := 3) sc_reached.nd rfl (Or.inl rfl) (pe_lst (pa_cons (pv 1) pa_nil))) (pss_cons (ps_while PassesOwn.never (pt_truth (pv 3) (fun _ => rfl)) (pss_cons (ps_set (i := 4) sc_reached.nd rfl (Or.inl rfl) (pe_bm0 PySem.F.plainAttrs_list PySem.F.slot_list_pop PySem.F.type_list_pop mt_pop (pv 3))) (pss_one (ps_for PassesOwn.never rfl (pi_list (pe_call (ok_steps TT) (hr.mono (by decide)) rfl TT.m_steps TT.F_steps.kp TT.b_steps .nil pass0 (pa_cons (pv 0) (pa_cons (pv 4) pa_nil)))) (pg_tup rfl (pgs_cons (pg_name (i := 5) sc_reached.nd rfl (Or.inl rfl)) (pgs_cons (pg_name (i := 6) sc_reached.nd rfl (Or.inl rfl)) pgs_nil))) (pss_one (ps_if (pt_cmp (pc_dnotin hu (pv 5) (pv 2))) (pss_cons (ps_dput hu (pv 2) (pv 5) (pe_tup (pa_cons (pv 4) (pa_consB (pe_op op_add (pe_ix ix_tup (pe_dget hu (pv 2) (pv 4) (fun _ _ => rfl)) pe_int (fun _ _ => rfl)) (pv 6)) pa_nil))) rfl) (pss_one (ps_expr (pe_bm PySem.F.plainAttrs_list PySem.F.slot_list_append PySem.F.type_list_append mt_append (pv 3) (pa_cons (pv 5) pa_nil))))) pss_nil)))))) (pss_one (ps_ret (pv 2)))))), ?_⟩
    show let B5 : TS := tRet (tVar 2); let B4 : TS := tFor (iList K (tCall sp_steps [] E0 (tCons (tVar 0) (tCons (tVar 4) tNil)))) (gTup K (List.length (assignEach [Expr.Name (Str.ofString "there") { line := 43, col := 12, endLine := 43, endCol := 17 }, Expr.Name (Str.ofString "length") { line := 43, col := 19, endLine := 43, endCol := 25 }] (Cx.env (Cx.nox (cxOf CX0 P w K mg base [Str.ofString "roads", Str.ofString "start", Str.ofString "found", Str.ofString "waiting", Str.ofString "here", Str.ofString "there", Str.ofString "length"] (Str.ofString "reached") (defScope s_reached) (Adr.f_reached t) cdv A outer sh H E))))) (gCons (gName 5) (gCons (gName 6) gNil))) (tIfS (tB (tDNotIn (tVar 5) (tVar 2))) (tSeq (sDPut (tVar 2) (tVar 5) (tTup (tCons (tVar 4) (tCons (tOp (rI0 fun i j => V.int (i + j)) (tOp (rIxT K) (tDGet (tVar 2) (tVar 4)) (tC (V.int 1))) (tVar 6)) tNil)))) (tDrop (tBM K "list" rAppend (tVar 3) (tCons (tVar 5) tNil)))) tNext); let B3 : TS := tSeq (tAsg (tBM0 K "list" rPop (tVar 3)) (gName 4)) B4; let B2 : TS := tSeq (tWhile (fun σ H_1 Q => tVar 3 σ H_1 fun x H' => ∃ k, TruV K x H' k ∧ Q k H') B3) B5; let B1 : TS := tSeq (tAsg (tLst (tCons (tVar 1) tNil)) (gName 3)) B2; tSeq (tAsg (tDisp [(tVar 1, tTup (tCons (tVar 1) (tCons (tC (V.int 0)) tNil)))]) (gName 2)) B1 _ _ _
    intro B5 B4 B3 B2 B1
    -- found = {start: (start, 0)}
    intro q hq
    refine ⟨_, rfl, _, rfl, by show 2 ≤ sizeLine; decide, fun a ha => ?_⟩
    have hqa : q ≠ a := fun z => by subst z; rw [upd_same] at ha; cases ha
    have ha0 : H a = none := by rw [upd_ne hqa.symm] at ha; exact ha
    refine ⟨by rw [upd_ne hqa, upd_same], [(Sum.inl s, .ref a)], rfl, by show 1 ≤ 15; decide, ?_⟩
    -- waiting = [start]
    refine ⟨_, rfl, by show 1 ≤ sizeLine; decide, fun u hu0 => ?_⟩
    have huq : u ≠ q := fun z => by subst z; rw [upd_same] at hu0; cases hu0
    have hua : u ≠ a := fun z => by subst z; rw [upd_ne hqa.symm, upd_same] at hu0; cases hu0
    have hun : H u = none := by rw [upd_ne huq, upd_ne hua, upd_ne huq] at hu0; exact hu0
    -- while waiting
    refine ⟨(reI1 H p q u rs s), ⟨_, [(s, s, 0)], [s], [(Sum.inl s, .ref a)], none, none, none, rfl, ?_, ?_, ?_, upd_same, RI.begin rs s, rfl, by simp only [List.length_cons, List.length_nil]; omega⟩, ?_⟩
    · intro b o e
      rw [upd_ne (ne_of_none e hun), upd_ne (ne_of_none e hq), upd_ne (ne_of_none e ha0), upd_ne (ne_of_none e hq)]
      exact e
    · rw [upd_ne huq.symm, upd_same]; rfl
    · refine .cons ⟨rfl, pairD_mk ?_⟩ .nil
      rw [upd_ne hua.symm, upd_ne hqa.symm, upd_same]
    · rintro m σ H2 ⟨tab, ws, kvs, v4, v5, v6, rfl, s2, hq2, hF, hu2, I, rfl, hm0⟩
      refine ⟨_, rfl, _, .inl ⟨_, SqL.of hu2, rfl⟩, ?_⟩
      rcases nil_or_snoc ws with rfl | ⟨ws', h, rfl⟩
      · refine iteF ?_
        exact ⟨_, rfl, k q tab H2 hq s2 ⟨kvs, hq2, hF⟩ I.T I.fin⟩
      · have et : (!((ws' ++ [h]).map V.int).isEmpty) = true := by simp
        rw [et]
        refine iteT ⟨_, fun σ' H' z => z, ?_⟩
        -- here = waiting.pop()
        refine ⟨_, rfl, .inl ⟨rfl, _, SqL.of hu2⟩, u, _, _, rfl, rfl, hu2, last_map, ?_⟩
        rw [drop_map]
        have J := I.pop
        have uq : u ≠ q := huq
        have s3 : Same H (upd H2 u (.lst (ws'.map V.int))) := fun b o e => by rw [upd_ne (ne_of_none e hun)]; exact s2 _ _ e
        -- for there, length in steps(roads, here)
        refine ⟨_, rfl, _, rfl, p, rs, h, rfl, hR.keep s3, hlen, fun c H3 hc s4 hP => ?_⟩
        obtain ⟨xs, hcx, hxs⟩ := hP
        have hq3 : H3 q = some (.dK kvs) := s4 _ _ (by rw [upd_ne uq.symm]; exact hq2)
        have hu3 : H3 u = some (.lst (ws'.map V.int)) := s4 _ _ upd_same
        have hcq : c ≠ q := fun z => by subst z; rw [upd_ne uq.symm, hq2] at hc; cases hc
        have hcu : c ≠ u := fun z => by subst z; rw [upd_same] at hc; cases hc
        have hF3 : Fnd H3 kvs tab := hF.froz fun b ys e => s4 _ _ (by rw [upd_ne]; exact e; intro z; subst z; rw [hu2] at e; cases e)
        have hlx := hxs.length
        rw [List.length_map] at hlx
        refine ⟨c, rfl, ⟨_, SqL.of hcx⟩, for_list (K := K) (a := c) (xs := xs) (reI2 H3 p q u rs s h ws' tab)
          ⟨tab, ws', kvs, v5, v6, rfl, fun _ _ _ _ e => e, hq3, hF3, hu3, J, by rw [List.length_append]; simp only [List.length_cons, List.length_nil]; omega⟩ (fun j σ H4 _ ⟨_, _, _, _, _, _, e, _⟩ => SqL.of (e _ _ hcq hcu hcx)) ?_ ?_⟩
        · rintro j x σ H4 hj ⟨tab2, ws2, kvs2, v5', v6', rfl, s5, hq4, hF4, hu4, J2, hm⟩
          obtain ⟨⟨y, l⟩, b, hpj, rfl, hb⟩ := PairsAt.get hxs hj
          have hbq : b ≠ q := ne_of hb hq3 (by intro z; cases z)
          have hbu : b ≠ u := ne_of hb hu3 (by intro z; cases z)
          have hb4 := s5 _ _ hbq hbu hb
          refine ⟨b, _, rfl, SqT.of hb4, rfl, _, _, rfl, _, _, rfl, rfl, ?_⟩
          -- if there not in found
          refine ⟨_, rfl, _, rfl, q, _, rfl, DGet.k (k := Sum.inl y) hq4, _, rfl, ?_⟩
          by_cases hy : y ∈ keys tab2
          · obtain ⟨py, dy, hmy⟩ := mem_keys.mp hy
            obtain ⟨a', e', _⟩ := hF4.some J2.T.nd hmy
            rw [e']
            exact iteF ⟨tab2, ws2, kvs2, _, _, rfl, s5, hq4, hF4, hu4, J2.skip hpj hy, hm⟩
          · have e' := hF4.none hy
            rw [e']
            refine iteT ?_
            -- found[there] = (here, found[here][1] + length)
            obtain ⟨ph, dh, hmh⟩ := mem_keys.mp J2.here
            obtain ⟨a', e2, ha'⟩ := hF4.some J2.T.nd hmh
            refine ⟨_, rfl, _, rfl, _, rfl, q, _, rfl, .inl ⟨kvs2, Sum.inl h, .inl hq4, rfl, e2.symm⟩, a', _, 1, _, rfl, rfl, SqT.of ha', atI_nat (j := 1) rfl, _, rfl, _, _, rfl, rfl, by show 2 ≤ sizeLine; decide, fun d hd => ?_⟩
            have hdq : d ≠ q := fun z => by subst z; rw [hq4] at hd; cases hd
            have hdu : d ≠ u := fun z => by subst z; rw [hu4] at hd; cases hd
            have hbound := J2.T.bound
            have hkl := hF4.length
            refine ⟨_, rfl, _, rfl, q, _, rfl, DPut.k (k := Sum.inl y) (by rw [upd_ne hdq.symm]; exact hq4) (by rw [hkl, sizeLine_eq]; omega), ?_⟩
            -- waiting.append(there)
            have hu5 : (upd (upd H4 d (.tup [.int h, .int (dh + l)])) q (.dK (putK kvs2 (Sum.inl y : Key) (.ref d)))) u = some (.lst (ws2.map V.int)) := by rw [upd_ne uq, upd_ne hdu.symm]; exact hu4
            have hwl : ws2.length ≤ 4001 := by omega
            refine ⟨_, rfl, .inl ⟨rfl, _, SqL.of hu5⟩, _, rfl, u, _, _, rfl, rfl, hu5, by rw [List.length_map, sizeLine_eq]; omega, ?_⟩
            have J3 := J2.add hpj hy hmh
            have hbound3 := J3.T.bound
            rw [List.length_append] at hbound3
            refine ⟨tab2 ++ [(y, h, dh + l)], ws2 ++ [y], _, _, _, rfl, fun b' o n1 n2 e => ?_, by rw [upd_ne uq.symm, upd_same], ?_, by rw [upd_same, List.map_append]; rfl, J3, ?_⟩
            · rw [upd_ne n2, upd_ne n1]
              have e4 := s5 _ _ n1 n2 e
              rw [upd_ne (ne_of_none e4 hd)]
              exact e4
            · have hd6 : (upd (upd (upd H4 d (.tup [.int h, .int (dh + l)])) q (.dK (putK kvs2 (Sum.inl y : Key) (.ref d)))) u (.lst (ws2.map V.int ++ [V.int y]))) d = some (.tup [.int h, .int (dh + l)]) := by rw [upd_ne hdu, upd_ne hdq, upd_same]
              refine (hF4.froz fun b' ys e => ?_).snoc hy hd6
              have n1 : b' ≠ q := ne_of e hq4 (by intro z; cases z)
              have n2 : b' ≠ u := ne_of e hu4 (by intro z; cases z)
              rw [upd_ne n2, upd_ne n1, upd_ne (ne_of_none e hd)]
              exact e
            · rw [List.length_append, List.length_append]
              simp only [List.length_cons, List.length_nil] at *
              omega
        · rintro σ H4 ⟨tab2, ws2, kvs2, v5', v6', rfl, s5, hq4, hF4, hu4, J2, hm⟩
          rw [hlx] at J2
          refine ⟨_, hm, tab2, ws2, kvs2, _, _, _, rfl, fun b o e => ?_, hq4, hF4, hu4, J2.fin, rfl, by omega⟩
          exact s5 _ _ (ne_of_none e hq) (ne_of_none e hun) (s4 _ _ (s3 _ _ e))
end
end WR
namespace WR
open PySem L2
theorem wholeV_iff {i a b : Int} : wholeV (.int i) a b = true ↔ a ≤ i ∧ i ≤ b := by
  show (decide (a ≤ i) && decide (i ≤ b)) = true ↔ _
  simp
theorem roadB_all {n : Nat} {rs : List Road} : (rs.map (roadB n)).all id = true ↔ Roads n rs := by
  rw [List.all_eq_true]
  have e : ∀ r : Road, roadB n r = true ↔ (0 ≤ r.1 ∧ r.1 ≤ (n : Int) - 1) ∧ (0 ≤ r.2.1 ∧ r.2.1 ≤ (n : Int) - 1) ∧ r.1 ≠ r.2.1 ∧ 1 ≤ r.2.2 ∧ r.2.2 ≤ 1000000 := fun r => by
    unfold roadB
    rw [Bool.and_eq_true, Bool.and_eq_true, Bool.and_eq_true, wholeV_iff, wholeV_iff, wholeV_iff]
    simp only [Bool.not_eq_true', decide_eq_false_iff_not, and_assoc]
  constructor
  · intro h
    have h' : ∀ r ∈ rs, roadB n r = true := fun r hr => h _ (List.mem_map.mpr ⟨r, hr, rfl⟩)
    exact ⟨fun r hr => by have := (e r).mp (h' r hr); omega, fun r hr => by have := (e r).mp (h' r hr); omega, fun r hr => ((e r).mp (h' r hr)).2.2.1, fun r hr => ((e r).mp (h' r hr)).2.2.2⟩
  · intro R x hx
    obtain ⟨r, hr, rfl⟩ := List.mem_map.mp hx
    refine (e r).mpr ?_
    have a1 := R.lo r hr; have a2 := R.hi r hr; have a3 := R.ne r hr; have a4 := R.ps r hr
    exact ⟨⟨a1.1, by omega⟩, ⟨a1.2, by omega⟩, a3, a4⟩
/-- it is a tree of the document's size -/
def IsTree (n : Int) (rs : List Road) : Prop := 1 ≤ n ∧ n ≤ 12 ∧ Tree n.toNat rs
def sp_is_tree : Sp := fun vs H Q _ => ∃ (p : Addr) (n : Int) (rs : List Road), vs = [.int n, .ref p] ∧ RoadsAt H p rs ∧ rs.length ≤ 1000 ∧ ∀ b H', Same H H' → (b = true ↔ IsTree n rs) → Q (.bl b) H'
section
variable {P : Program} {w : World} {K : PySem.W.Frag} {mg : Str → Option Value} {base : Heap} {t : Adr}
theorem ok_is_tree (TT : Txt K mg t) : FnOk P w K mg base CX0 4 t.f_is_tree t.d_is_tree ["villages", "roads"] sp_is_tree := by
  refine TT.F_is_tree.ok sc_is_tree (fun vs H Q E h => ?_) (fun cdv A outer sh H vs Q E hr h => ?_)
  · obtain ⟨p, n, rs, rfl, _⟩ := h
    rfl
  · obtain ⟨p, n, rs, rfl, hR, hlen, k⟩ := h
    have hu := hu_of hr
    refine ⟨_, (pss_cons (ps_if (pt_not (pt_val (pe_call (ok_is_whole TT) (hr.mono (by decide)) rfl TT.m_is_whole TT.F_is_whole.kp TT.b_is_whole .nil pass0 (pa_cons (pv 0) (pa_consC pe_int (pa_cons (pe_glob (v := .int 12) rfl TT.g_MOST_VILLAGES ⟨_, rfl⟩) pa_nil)))))) (pss_one (ps_ret pe_bl)) pss_nil) (pss_cons (ps_if (PW.pt (pw_or (pt_not (pt_val (pe_callB call_isinst rfl TT.z_isinstance WB.bt_isinstance (pa_cons (pv 1) (pa_cons (pe_bltn (v := .ty "list") rfl TT.z_list WB.bt_list rfl) pa_nil))))) (pw_or1 (pt_cmpR op_ne (pe_callB call_len_seq rfl TT.z_len WB.bt_len (pa_cons (pv 1) pa_nil)) (pe_op op_sub (pv 0) pe_int) (nomark _))))) (pss_one (ps_ret pe_bl)) pss_nil) (pss_cons (ps_if (pt_not (pt_val (pe_callB (call_all rfl) rfl TT.z_all WB.bt_all (pa_cons (pe_comp rfl (N := ["road", "villages"]) (fr := [(1, 0)]) (compOk (N0 := ["villages", "roads"]) (N := ["road", "villages"]) (fr := [(1, 0)]) (sc0 := defScope s_is_tree) rfl ⟨rfl, rfl⟩ (by decide +kernel)) (pi_list (pv 1)) (fun _ _ _ _ _ => ⟨(pg_name (i := 0) (show (["road", "villages"] : List Str).Nodup by decide +kernel) rfl (Or.inl rfl)), pf_none, (pe_call (ok_is_road TT) (hr.mono (by decide)) rfl TT.m_is_road TT.F_is_road.kp TT.b_is_road .nil pass0 (pa_cons (pv 0) (pa_cons (pv 1) pa_nil)))⟩)) pa_nil)))) (pss_one (ps_ret pe_bl)) pss_nil) (pss_one (ps_ret (pe_cmpR op_eq (pe_callB call_lenD rfl TT.z_len WB.bt_len (pa_cons (pe_call (ok_reached TT) (hr.mono (by decide)) rfl TT.m_reached TT.F_reached.kp TT.b_reached .nil pass0 (pa_cons (pv 1) (pa_consC pe_int pa_nil))) pa_nil)) (pv 0) (nomark _))))))), ?_⟩
    show let B3 : TS := tRet (tOp rEq (tCB (fun xs H Q => ∃ a kvs, xs = [V.ref a] ∧ H a = some (HO.dK kvs) ∧ Q (V.int ↑(List.length kvs)) H) (tCons (tCall sp_reached [] E0 (tCons (tVar 1) (tCons (tC (V.int 0)) tNil))) tNil)) (tVar 0)); let B2 : TS := tSeq (tIfS (tNot (tB (tCB (fun xs H_1 Q => ∃ p bs, xs = [V.ref p] ∧ SqL K H_1 p (List.map V.bl bs) ∧ Q (V.bl (List.all bs id)) H_1) (tCons (tComp (List.length [Str.ofString "road", Str.ofString "villages"]) [(1, 0)] (iList K (tVar 1)) (gName 0) tNoIf (tCall sp_is_road [] E0 (tCons (tVar 0) (tCons (tVar 1) tNil)))) tNil)))) (tRet (tC (V.bl false))) tNext) B3; let B1 : TS := tSeq (tIfS (tOr (tNot (tB (tCB (fun xs H_1 Q => ∃ x n t_1 b, xs = [x, V.ty n] ∧ TyOf K H_1 x t_1 ∧ W.kitOne K t_1 (Value.type n) = some b ∧ Q (V.bl b) H_1) (tCons (tVar 1) (tCons (tC (V.ty "list")) tNil))))) (tTest (tOp rNe (tCB (fun xs H_1 Q => ∃ p ys, xs = [V.ref p] ∧ (SqL K H_1 p ys ∨ SqT K H_1 p ys) ∧ Q (V.int ↑(List.length ys)) H_1) (tCons (tVar 1) tNil)) (tOp (rI0 fun i j => V.int (i - j)) (tVar 0) (tC (V.int 1)))))) (tRet (tC (V.bl false))) tNext) B2; tSeq (tIfS (tNot (tB (tCall sp_is_whole [] E0 (tCons (tVar 0) (tCons (tC (V.int 1)) (tCons (tC (V.int 12)) tNil)))))) (tRet (tC (V.bl false))) tNext) B1 _ _ _
    intro B3 B2 B1
    obtain ⟨xs, hp, hxs⟩ := hR
    have hlx := hxs.length
    rw [List.length_map] at hlx
    refine ⟨_, rfl, _, _, _, rfl, .int _, _, rfl, ?_⟩
    cases e1 : wholeV (.int n) 1 12 with
    | false => exact iteT (k false H (Same.refl H) ⟨fun z => (nomatch z), fun z => by rw [wholeV_iff.mpr ⟨z.1, z.2.1⟩] at e1; cases e1⟩)
    | true =>
      obtain ⟨n1, n2⟩ := wholeV_iff.mp e1
      obtain ⟨m, rfl⟩ := Int.eq_ofNat_of_zero_le (show 0 ≤ n by omega)
      refine iteF ⟨_, rfl, _, "list", .type "list", true, rfl, .lst hp, kit_ll, true, rfl, iteF ?_⟩
      refine ⟨_, rfl, p, _, rfl, .inl (SqL.of hp), _, rfl, _, _, rfl, rfl, rfl, _, rfl, ?_⟩
      rw [hlx]
      by_cases e2 : rs.length + 1 = m
      · have hd : (!decide (V.int (rs.length : Int) = V.int ((m : Int) - 1))) = false := by
          have : (rs.length : Int) = (m : Int) - 1 := by omega
          rw [this]; simp
        refine ite_f hd ?_
        -- all([is_road(road, villages) for road in roads])
        refine ⟨_, rfl, p, rfl, ⟨_, SqL.of hp⟩, fun acc hacc => comp_list (K := K) (xs := xs) (fun i τ ys H2 => (∃ v, τ = [v, some (.int m)]) ∧ ys = ((rs.take i).map (roadB m)).map V.bl ∧ H2 acc = some (.lst ys) ∧ Same H H2 ∧ i ≤ rs.length) ⟨⟨_, rfl⟩, rfl, upd_same, same_new hacc, Nat.zero_le _⟩
          (fun i τ ys H2 _ ⟨_, _, h3, h4, _⟩ => ⟨SqL.of (h4 _ _ hp), h3⟩) ?_ ?_⟩
        · rintro i x τ ys H2 R hi ⟨⟨v, rfl⟩, rfl, h3, h4, h5⟩ hR
          obtain ⟨r, a, hri, rfl, ha⟩ := RoadsAt.get hp hxs hi
          have hlt : i < rs.length := (List.getElem?_eq_some_iff.mp hri).1
          refine noifN ?_
          refine ⟨_, rfl, _, rfl, a, m, r, rfl, h4 _ _ ha, fun H' s' => ⟨s' _ _ h3, by simp only [List.length_map, List.length_take]; rw [sizeLine_eq]; omega, hR _ _ _ ⟨⟨_, rfl⟩, ?_, upd_same, fun b o e => ?_, hlt⟩⟩⟩
          · rw [List.take_add_one, hri]; simp
          · rw [upd_ne (ne_of_none e hacc)]; exact s' _ _ (h4 _ _ e)
        · rintro τ ys H2 ⟨⟨v, rfl⟩, rfl, h3, h4, h5⟩
          rw [hlx, List.take_length] at h3
          refine ⟨acc, rs.map (roadB m), rfl, SqL.of h3, _, rfl, ?_⟩
          cases e3 : (rs.map (roadB m)).all id with
          | false => exact iteT (k false H2 h4 ⟨fun z => (nomatch z), fun z => by have := roadB_all.mpr z.2.2.roads; simp only [Int.toNat_natCast] at this; rw [this] at e3; cases e3⟩)
          | true =>
            refine iteF ?_
            have R := roadB_all.mp e3
            -- return len(reached(roads, 0)) == villages
            refine ⟨_, rfl, p, rs, 0, rfl, ⟨xs, h4 _ _ hp, hxs.keep h4⟩, hlen, fun q tab H3 hq s3 ⟨kvs, hqd, hF⟩ T hc => ⟨q, kvs, rfl, hqd, _, rfl, rfl, ?_⟩⟩
            refine k _ H3 (h4.trans s3) ?_
            rw [hF.length]
            have := tree_iff R e2 T hc
            simp only [decide_eq_true_eq, V.int.injEq]
            constructor
            · intro z
              exact ⟨n1, n2, by simp only [Int.toNat_natCast]; exact this.mp (by omega)⟩
            · intro z
              have z3 := z.2.2
              simp only [Int.toNat_natCast] at z3
              have := this.mpr z3
              omega
      · have hd : (!decide (V.int (rs.length : Int) = V.int ((m : Int) - 1))) = true := by
          have : ¬ (rs.length : Int) = (m : Int) - 1 := by omega
          simp [this]
        refine ite_t hd ?_
        exact k false H (Same.refl H) ⟨fun z => (nomatch z), fun z => by have := z.2.2.count; simp only [Int.toNat_natCast] at this; exact absurd this e2⟩
end
end WR
namespace WR
open PySem L2
/-! ### a Tree -/
theorem f_ne : ¬ (("size" : Str) = "road_list") := by decide +kernel
def flds (n : Int) (q : Addr) : List (Str × V) := putF "road_list" (.ref q) (putF "size" (.int n) [])
theorem flds_size (n : Int) (q : Addr) : (flds n q).lookup ("size" : Str) = some (.int n) := by
  unfold flds
  rw [lookup_putF, if_neg f_ne, lookup_putF, if_pos rfl]
theorem flds_roads (n : Int) (q : Addr) : (flds n q).lookup ("road_list" : Str) = some (.ref q) := by
  unfold flds
  rw [lookup_putF, if_pos rfl]
theorem flds_no (n : Int) (q : Addr) {m : Str} (h1 : ¬ m = "road_list") (h2 : ¬ m = "size") : (flds n q).lookup m = none := by
  unfold flds
  rw [lookup_putF, if_neg h1, lookup_putF, if_neg h2]
  all_goals rfl
/-- a Tree stands at x, its list of roads at q -/
structure TreeAt (C : Addr) (H : Hp) (x q : Addr) (n : Int) (rs : List Road) : Prop where
  ob : ∃ dx, H x = some (.ins C dx (flds n q))
  rd : RoadsAt H q rs
  ok : IsTree n rs
theorem TreeAt.keep {C : Addr} {H H' : Hp} {x q : Addr} {n : Int} {rs : List Road} (T : TreeAt C H x q n rs) (k : Same H H') : TreeAt C H' x q n rs := ⟨let ⟨dx, h⟩ := T.ob; ⟨dx, k _ _ h⟩, T.rd.keep k, T.ok⟩
theorem IsTree.len {n : Int} {rs : List Road} (h : IsTree n rs) : rs.length ≤ 1000 := by
  have := h.2.2.count
  have := h.2.1
  omega
def sp_Tree_init (C : Addr) : Sp := fun vs H Q _ => ∃ (x dx p : Addr) (n : Int) (rs : List Road), vs = [.ref x, .int n, .ref p] ∧ H x = some (.ins C dx []) ∧ RoadsAt H p rs ∧ IsTree n rs ∧
  ∀ q H', H q = none → TreeAt C H' x q n rs → (∀ b o, H b = some o → b ≠ x → H' b = some o) → Q .non H'
def sp_Tree_roads (C : Addr) : Sp := fun vs H Q _ => ∃ (x q : Addr) (n : Int) (rs : List Road), vs = [.ref x] ∧ TreeAt C H x q n rs ∧ ∀ p H', H p = none → Same H H' → RoadsAt H' p rs → Q (.ref p) H'
def sp_need_village (C : Addr) : Sp := fun vs H Q _ => ∃ (x q : Addr) (n : Int) (rs : List Road) (v : Int), vs = [.ref x, .int v] ∧ TreeAt C H x q n rs ∧ InV n.toNat v ∧ ∀ H', Same H H' → Q .non H'
section
variable {P : Program} {w : World} {K : PySem.W.Frag} {mg : Str → Option Value} {base : Heap} {t : Adr}
theorem ok_Tree_init (TT : Txt K mg t) : FnOk P w K mg base CX0 5 t.f_Tree_init t.d_Tree_init ["self", "villages", "roads"] (sp_Tree_init t.C_Tree) := by
  refine TT.F_Tree_init.ok sc_Tree_init (fun vs H Q E h => ?_) (fun cdv A outer sh H vs Q E hr h => ?_)
  · obtain ⟨x, dx, p, n, rs, rfl, _⟩ := h
    rfl
  · obtain ⟨x, dx, p, n, rs, rfl, hx, hR, hT, k⟩ := h
    refine ⟨_, (pss_cons (ps_if (pt_not (pt_val (pe_call (ok_is_tree TT) (hr.mono (by decide)) rfl TT.m_is_tree TT.F_is_tree.kp TT.b_is_tree .nil pass0 (pa_cons (pv 1) (pa_cons (pv 2) pa_nil))))) (pss_one ps_never) pss_nil) (pss_cons (ps_fld (pv 0) (pv 1) rfl) (pss_one (ps_fld (pv 0) (pe_callTy call_list_of rfl TT.z_list WB.bt_list (pa_cons (pv 2) pa_nil)) rfl)))), ?_⟩
    refine ⟨_, rfl, _, rfl, p, n, rs, rfl, hR, hT.len, fun b H1 s1 hb => ⟨b, rfl, ?_⟩⟩
    refine ite_f (by rw [hb.mpr hT]; rfl) ?_
    -- self.size = villages
    refine ⟨_, rfl, _, rfl, x, t.C_Tree, dx, _, rfl, s1 _ _ hx, TT.cl_Tree, TT.n_Tree_size, by show 0 < 1000; decide, ?_⟩
    -- self.road_list = list(roads)
    obtain ⟨xs, hp, hxs⟩ := hR
    have hpx : p ≠ x := ne_of hp hx (by intro z; cases z)
    refine ⟨_, rfl, p, _, rfl, .inl (SqL.of (by rw [upd_ne hpx]; exact s1 _ _ hp)), fun q hq => ?_⟩
    have hqx : q ≠ x := fun z => by subst z; rw [upd_same] at hq; cases hq
    have hq1 : H1 q = none := by rw [upd_ne hqx] at hq; exact hq
    have hq0 : H q = none := s1.free hq1
    refine ⟨_, rfl, x, t.C_Tree, dx, _, rfl, by rw [upd_ne hqx.symm, upd_same], TT.cl_Tree, TT.n_Tree_road_list, by show 1 < 1000; decide, ?_⟩
    have kp : ∀ b o, H b = some o → b ≠ x → upd (upd (upd H1 x (.ins t.C_Tree dx (putF "size" (.int n) []))) q (.lst xs)) x (.ins t.C_Tree dx (flds n q)) b = some o := fun b o e hb => by
      rw [upd_ne hb, upd_ne (ne_of_none e hq0), upd_ne hb]
      exact s1 _ _ e
    refine k q _ hq0 ⟨⟨dx, upd_same⟩, ⟨xs, by rw [upd_ne hqx, upd_same], ?_⟩, hT⟩ kp
    refine hxs.froz (fun b ys e => kp b _ e ?_) (frozs_roads rs)
    intro z; subst z; rw [hx] at e; cases e
theorem ok_Tree_roads (TT : Txt K mg t) : FnOk P w K mg base CX0 1 t.f_Tree_roads t.d_Tree_roads ["self"] (sp_Tree_roads t.C_Tree) := by
  refine TT.F_Tree_roads.ok sc_Tree_roads (fun vs H Q E h => ?_) (fun cdv A outer sh H vs Q E hr h => ?_)
  · obtain ⟨x, q, n, rs, rfl, _⟩ := h
    rfl
  · obtain ⟨x, q, n, rs, rfl, ⟨⟨dx, hx⟩, ⟨xs, hq, hxs⟩, hT⟩, k⟩ := h
    refine ⟨_, (pss_one (ps_ret (pe_callTy call_list_of rfl TT.z_list WB.bt_list (pa_cons (pe_fld (pv 0) rfl) pa_nil)))), ?_⟩
    refine ⟨_, rfl, x, t.C_Tree, dx, _, _, rfl, hx, TT.cl_Tree, TT.n_Tree_road_list, flds_roads _ _, q, _, rfl, .inl (SqL.of hq), fun p hp => ?_⟩
    exact k p _ hp (same_new hp) ⟨xs, upd_same, hxs.keep (same_new hp)⟩
end
end WR
namespace WR
open PySem L2
/-- the way from one to the other -/
def WayOf (n : Nat) (rs : List Road) (one other : Int) (ws : List Int) : Prop := ∃ (par : Int → Int) (idx : Int → Nat) (rk : Int → Nat) (k : Nat), Span n rs other par idx (far n rs other) rk ∧ up par k one = other ∧ (∀ j, j < k → InV n (up par j one) ∧ up par j one ≠ other) ∧ ws = upList par k one
def sp_far (C : Addr) : Sp := fun vs H Q _ => ∃ (x q : Addr) (n : Int) (rs : List Road) (one other : Int), vs = [.ref x, .int one, .int other] ∧ TreeAt C H x q n rs ∧ InV n.toNat one ∧ InV n.toNat other ∧ ∀ H', Same H H' → Q (.int (far n.toNat rs one other)) H'
def sp_way (C : Addr) : Sp := fun vs H Q _ => ∃ (x q : Addr) (n : Int) (rs : List Road) (one other : Int), vs = [.ref x, .int one, .int other] ∧ TreeAt C H x q n rs ∧ InV n.toNat one ∧ InV n.toNat other ∧
  ∀ p ws H', H p = none → Same H H' → H' p = some (.lst (ws.map V.int)) → WayOf n.toNat rs one other ws → Q (.ref p) H'
/-- how far it is from s to each -/
def rowM (n : Nat) (rs : List Road) (s : Int) : List Int := (List.range n).map fun (x : Nat) => far n rs s x
def sp_distances_from (C : Addr) : Sp := fun vs H Q _ => ∃ (x q : Addr) (n : Int) (rs : List Road) (v : Int), vs = [.ref x, .int v] ∧ TreeAt C H x q n rs ∧ InV n.toNat v ∧
  ∀ p H', H p = none → Same H H' → H' p = some (.lst ((rowM n.toNat rs v).map V.int)) → Q (.ref p) H'
/-- new lists, one a row -/
def RowsNew (H H' : Hp) (p : Addr) (rows : List (List Int)) : Prop := ∃ ps : List Addr, H' p = some (.lst (ps.map V.ref)) ∧ Paired (fun r row => H r = none ∧ r ≠ p ∧ H' r = some (.lst (row.map V.int))) ps rows
def rowsM (n : Nat) (rs : List Road) : List (List Int) := (List.range n).map fun (s : Nat) => rowM n rs s
def sp_distances (C : Addr) : Sp := fun vs H Q _ => ∃ (x q : Addr) (n : Int) (rs : List Road), vs = [.ref x] ∧ TreeAt C H x q n rs ∧ ∀ p H', H p = none → Same H H' → RowsNew H H' p (rowsM n.toNat rs) → Q (.ref p) H'
theorem flds_noroads (n : Int) (q : Addr) : (flds n q).lookup ("roads" : Str) = none := flds_no n q (by decide +kernel) (by decide +kernel)
end WR
namespace WR
open PySem L2
theorem rowM_take {n : Nat} {rs : List Road} {s : Int} {i : Nat} (h : i < n) : (rowM n rs s).take (i + 1) = (rowM n rs s).take i ++ [far n rs s i] := by
  have hl : (rowM n rs s)[i]? = some (far n rs s i) := by
    unfold rowM
    rw [List.getElem?_map, List.getElem?_range h]
    rfl
  rw [List.take_add_one, hl]
  rfl
theorem rowM_length (n : Nat) (rs : List Road) (s : Int) : (rowM n rs s).length = n := by simp [rowM]
section
variable {P : Program} {w : World} {K : PySem.W.Frag} {mg : Str → Option Value} {base : Heap} {t : Adr}
theorem ok_distances_from (TT : Txt K mg t) : FnOk P w K mg base CX0 3 t.f_distances_from t.d_distances_from ["tree", "village"] (sp_distances_from t.C_Tree) := by
  refine TT.F_distances_from.ok sc_distances_from (fun vs H Q E h => ?_) (fun cdv A outer sh H vs Q E hr h => ?_)
  · obtain ⟨x, q, n, rs, v, rfl, _⟩ := h
    rfl
  · obtain ⟨x, q, n, rs, v, rfl, T, h1, k⟩ := h
    have hu := hu_of hr
    refine ⟨_, (pss_cons (ps_set (i := 2) sc_distances_from.nd rfl (Or.inr rfl) (pe_call (ok_reached TT) (hr.mono (by decide)) rfl TT.m_reached TT.F_reached.kp TT.b_reached .nil pass0 (pa_cons (pe_meth0 (pv 0) TT.cl_Tree TT.M_Tree_roads (ok_Tree_roads TT) (hr.mono (by decide)) TT.b_Tree_roads .nil pass0) (pa_cons (pv 1) pa_nil)))) (pss_one (ps_ret (pe_comp rfl (N := ["other", "found"]) (fr := [(1, 2)]) (compOk (N0 := ["tree", "village", "found"]) (N := ["other", "found"]) (fr := [(1, 2)]) (sc0 := defScope s_distances_from) rfl ⟨rfl, rfl⟩ (by decide +kernel)) (pi_range1 rfl TT.z_range (pa_cons (pe_fld (pv 0) rfl) pa_nil)) (fun _ _ _ _ _ => ⟨(pg_name (i := 0) (show (["other", "found"] : List Str).Nodup by decide +kernel) rfl (Or.inl rfl)), pf_none, (pe_ix (ix_tupK (K := K) rfl) (pe_dget hu (pv 1) (pv 0) (fun _ _ => rfl)) pe_int (fun _ _ => rfl))⟩))))), ?_⟩
    obtain ⟨dx, hx⟩ := T.ob
    refine ⟨_, rfl, x, dx, _, rfl, hx, flds_noroads _ _, x, q, n, rs, rfl, T, fun p H3 hp s3 hR => ?_⟩
    refine ⟨_, rfl, p, rs, v, rfl, hR, T.ok.len, fun q' tab H4 hq' s4 hF hT hc => ?_⟩
    obtain ⟨kvs, hk, hF⟩ := hF
    have s14 := s3.trans s4
    obtain ⟨par, idx, rk, S, hv, _, val⟩ := T.ok.2.2.table h1 hT hc
    have n1 := T.ok.1
    have n2 := T.ok.2.1
    have hx4 := s14 _ _ hx
    refine ⟨_, rfl, x, t.C_Tree, dx, _, _, rfl, hx4, TT.cl_Tree, TT.n_Tree_size, flds_size _ _, n, rfl, by omega, by omega, fun acc hacc => comp_range (k := n.toNat) (fun i τ ys H2 => (∃ o, τ = [o, some (.ref q')]) ∧ ys = ((rowM n.toNat rs v).take i).map V.int ∧ H2 = upd H4 acc (.lst ys)) ⟨⟨_, rfl⟩, rfl, rfl⟩
      (fun i τ ys H2 _ ⟨_, _, h3⟩ => by rw [h3, upd_same]) ?_ ?_⟩
    · rintro i τ ys H2 R hi ⟨⟨o, rfl⟩, rfl, rfl⟩ hR'
      have hiv : InV n.toNat (0 + (i : Int)) := ⟨by omega, by omega⟩
      obtain ⟨po, d, hm⟩ := mem_keys.mp (hv _ hiv)
      obtain ⟨a, e, ha⟩ := hF.some hT.nd hm
      have hqa : q' ≠ acc := ne_of_none hk hacc
      have haa : a ≠ acc := ne_of_none ha hacc
      refine noifN ?_
      refine ⟨_, rfl, _, rfl, q', _, rfl, .inl ⟨kvs, Sum.inl _, .inl (by rw [upd_ne hqa]; exact hk), rfl, e.symm⟩, a, _, 1, _, rfl, rfl, SqT.of (by rw [upd_ne haa]; exact ha), atI_nat (j := 1) rfl, upd_same, by rw [List.length_map, List.length_take, rowM_length, sizeLine_eq]; omega, hR' _ _ _ ⟨⟨_, rfl⟩, ?_, upd_upd⟩⟩
      rw [rowM_take hi, List.map_append, (val _ _ _ hm).1]
      simp
    · rintro τ ys H2 ⟨_, rfl, rfl⟩
      rw [List.take_of_length_le (by rw [rowM_length]; exact Nat.le_refl _)]
      exact k acc _ (s14.free hacc) (s14.trans (same_new hacc)) upd_same
end
end WR
namespace WR
open PySem L2
def sp_cell_at (K : PySem.W.Frag) : Sp := fun vs H Q _ => ∃ (a : Addr) (ns : List Int) (k : Int), vs = [.ref a, .int k] ∧ SqL K H a (ns.map V.int) ∧ 0 ≤ k ∧ ∀ c, Q (.int c) H
def sp_draw : Sp := fun vs H Q _ => ∃ (cell k many : Int), vs = [.int cell, .int k, .int many] ∧ 0 ≤ k ∧ k < 2 ^ 62 ∧ 0 < many ∧ ∀ r H', 0 ≤ r → r < many → Same H H' → Q (.int r) H'
def sp_name : Sp := fun vs H Q _ => ∃ (k n turn : Int), vs = [.int k, .int n, .int turn] ∧ IsTurn turn ∧ Q (.int (nameM k n turn)) H
section
variable {P : Program} {w : World} {K : PySem.W.Frag} {mg : Str → Option Value} {base : Heap} {t : Adr}
theorem ok__law_cell_at (TT : Txt K mg t) : FnOk P w K mg base CX0 1 t.f__law_cell_at t.d__law_cell_at ["_law_script", "_law_k"] (sp_cell_at K) := by
  refine TT.F__law_cell_at.ok sc__law_cell_at (fun vs H Q E h => ?_) (fun cdv A outer sh H vs Q E hr h => ?_)
  · obtain ⟨a, ns, k, rfl, _⟩ := h
    rfl
  · obtain ⟨a, ns, k, rfl, hS, h0, q⟩ := h
    refine ⟨_, (pss_cons (ps_if (pt_cmpR op_lt (pv 1) (pe_callB call_len_seq rfl TT.z_len WB.bt_len (pa_cons (pv 0) pa_nil)) (nomark _)) (pss_one (ps_ret (pe_ix ix_list (pv 0) (pv 1) (fun _ _ => rfl)))) pss_nil) (pss_one (ps_ret pe_int))), ?_⟩
    refine ⟨_, rfl, _, rfl, a, _, rfl, .inl hS, _, _, rfl, rfl, _, rfl, ite2 (fun c => ?_) (fun c => ?_)⟩
    · have c : k < ((ns.map V.int).length : Int) := by simpa using c
      rw [List.length_map] at c
      obtain ⟨j, rfl⟩ := Int.eq_ofNat_of_zero_le h0
      have hj : j < ns.length := by omega
      refine ⟨_, rfl, _, rfl, a, _, _, .int ns[j], rfl, rfl, hS, atI_nat (j := j) (by rw [List.getElem?_map, List.getElem?_eq_getElem hj]; rfl), q _⟩
    · exact q 0
def primes : List V := [.int 1000003, .int 1000033, .int 1000037, .int 1000039, .int 1000081, .int 1000099, .int 1000117, .int 1000121]
theorem prime_at {m : Int} (h0 : 0 ≤ m) (h1 : m < 8) : ∃ p : Int, atI primes m = some (.int p) ∧ 0 < p := by
  obtain ⟨j, rfl⟩ := Int.eq_ofNat_of_zero_le h0
  have hj : j < 8 := by omega
  match j, hj with
  | 0, _ => exact ⟨1000003, by rfl, by decide⟩
  | 1, _ => exact ⟨1000033, by rfl, by decide⟩
  | 2, _ => exact ⟨1000037, by rfl, by decide⟩
  | 3, _ => exact ⟨1000039, by rfl, by decide⟩
  | 4, _ => exact ⟨1000081, by rfl, by decide⟩
  | 5, _ => exact ⟨1000099, by rfl, by decide⟩
  | 6, _ => exact ⟨1000117, by rfl, by decide⟩
  | 7, _ => exact ⟨1000121, by rfl, by decide⟩
theorem ok__law_draw (TT : Txt K mg t) : FnOk P w K mg base CX0 1 t.f__law_draw t.d__law_draw ["_law_cell", "_law_k", "_law_many"] sp_draw := by
  refine TT.F__law_draw.ok sc__law_draw (fun vs H Q E h => ?_) (fun cdv A outer sh H vs Q E hr h => ?_)
  · obtain ⟨cell, k, many, rfl, _⟩ := h
    rfl
  · obtain ⟨cell, k, many, rfl, k0, k1, hm, q⟩ := h
    refine ⟨_, (pss_cons (ps_set (i := 3) sc__law_draw.nd rfl (Or.inl rfl) (pe_tup (pa_consC pe_int (pa_consC pe_int (pa_consC pe_int (pa_consC pe_int (pa_consC pe_int (pa_consC pe_int (pa_consC pe_int (pa_consC pe_int pa_nil)))))))))) (pss_cons (ps_set (i := 4) sc__law_draw.nd rfl (Or.inl rfl) (pe_op op_add (pe_op op_add (pe_op op_mul (pv 0) pe_int) (pe_op op_mul (pv 1) pe_int)) (pe_op op_mul (pe_op op_mod (pe_op op_fdiv (pv 0) pe_int) pe_int) pe_int))) (pss_one (ps_ret (pe_op op_mod (pe_op op_mod (pv 4) (pe_ix ix_tup (pv 3) (pe_op op_mod (pv 1) pe_int) (fun _ _ => rfl))) (pv 2)))))), ?_⟩
    refine ⟨by show 8 ≤ sizeLine; decide, fun p hp => ?_⟩
    refine ⟨_, rfl, _, _, rfl, rfl, .inr ⟨by decide, by decide⟩, _, rfl, _, _, rfl, rfl, .inr ⟨by decide, by decide⟩, _, _, rfl, rfl, _, rfl, _, _, rfl, rfl, ⟨by decide, by decide⟩, _, _, rfl, rfl, (by show (0 : Int) < 1000003; decide), _, _, rfl, rfl, .inr ⟨by decide, by decide⟩, _, _, rfl, rfl, ?_⟩
    obtain ⟨pr, e, hp0⟩ := prime_at (m := k % 8) (Int.emod_nonneg _ (by decide)) (Int.emod_lt_of_pos _ (by decide))
    refine ⟨_, rfl, _, rfl, _, rfl, _, _, rfl, rfl, (by show (0 : Int) < 8; decide), p, primes, _, _, rfl, rfl, SqT.of upd_same, e, _, _, rfl, rfl, hp0, _, rfl, _, _, rfl, rfl, hm, ?_⟩
    exact q _ _ (Int.emod_nonneg _ (by omega)) (Int.emod_lt_of_pos _ hm) (same_new hp)
theorem ok__law_name (TT : Txt K mg t) : FnOk P w K mg base CX0 1 t.f__law_name t.d__law_name ["_law_k", "_law_villages", "_law_turn"] sp_name := by
  refine TT.F__law_name.ok sc__law_name (fun vs H Q E h => ?_) (fun cdv A outer sh H vs Q E hr h => ?_)
  · obtain ⟨k, n, turn, rfl, _⟩ := h
    rfl
  · obtain ⟨k, n, turn, rfl, ht, q⟩ := h
    refine ⟨_, (pss_cons (ps_if (PW.pt (pw_and (pt_cmpR op_gt (pv 1) pe_int (nomark _)) (pw_and1 (PW.pt (pw_or (pt_cmpR op_eq (pv 2) pe_int (nomark _)) (pw_or1 (pt_cmpR op_ne (pe_op op_mod (pv 1) (pv 2)) pe_int (nomark _)))))))) (pss_one (ps_ret (pe_op op_mod (pe_op op_mul (pv 0) (pv 2)) (pv 1)))) pss_nil) (pss_one (ps_ret (pv 0)))), ?_⟩
    have tp : 0 < turn := by rcases ht with rfl | rfl | rfl | rfl <;> decide
    have tm : CMul k turn := by rcases ht with rfl | rfl | rfl | rfl <;> exact .inr ⟨by decide, by decide⟩
    refine ⟨_, rfl, _, _, rfl, rfl, _, rfl, ite2 (fun c1 => ?_) (fun c1 => ?_)⟩
    · have c1 : 1 < n := by simpa using c1
      refine ⟨_, rfl, rfl, _, rfl, ite2 (fun c2 => ?_) (fun c2 => ?_)⟩
      · have c2 : turn = 1 := by simpa using c2
        refine iteT ⟨_, rfl, _, rfl, _, _, rfl, rfl, tm, _, rfl, _, _, rfl, rfl, by omega, ?_⟩
        have : nameM k n turn = k * turn % n := by unfold nameM; rw [if_pos ⟨c1, .inl c2⟩]
        rw [this] at q
        exact q
      · have c2 : ¬ turn = 1 := by simpa using c2
        refine ⟨_, rfl, _, rfl, _, _, rfl, rfl, tp, rfl, _, rfl, ?_⟩
        by_cases c3 : n % turn = 0
        · refine ite_f (by show (!decide (V.int (n % turn) = V.int 0)) = false; rw [c3]; simp) ?_
          have : nameM k n turn = k := by unfold nameM; rw [if_neg (fun z => z.2.elim c2 fun y => y c3)]
          rw [this] at q
          exact ⟨_, rfl, q⟩
        · refine ite_t (by simpa using c3) ⟨_, rfl, _, rfl, _, _, rfl, rfl, tm, _, rfl, _, _, rfl, rfl, by omega, ?_⟩
          have : nameM k n turn = k * turn % n := by unfold nameM; rw [if_pos ⟨c1, .inr c3⟩]
          rw [this] at q
          exact q
    · have c1 : ¬ 1 < n := by simpa using c1
      have : nameM k n turn = k := by unfold nameM; rw [if_neg (fun z => c1 z.1)]
      rw [this] at q
      exact iteF ⟨_, rfl, q⟩
end
end WR
namespace WR
open PySem L2
def sp_told (K : PySem.W.Frag) : Sp := fun vs H Q _ => ∃ (a : Addr) (ns : List Int) (first most : Int), vs = [.ref a, .int first, .int most] ∧ SqL K H a (ns.map V.int) ∧ 0 ≤ first ∧ 1 ≤ most ∧ most ≤ 12 ∧
  ∀ p q n rs H', H p = none → H q = none → p ≠ q → Same H H' → H' p = some (.tup [.int n, .ref q]) → RoadsAt H' q rs → IsTree n rs → n ≤ most → Q (.ref p) H'
theorem st13 {a0 a1 a2 a3 a4 a5 a6 a7 a8 a9 a10 a11 a12 : Option V} : ∃ v : Nat → Option V, ([a0, a1, a2, a3, a4, a5, a6, a7, a8, a9, a10, a11, a12] : St) = [a0, a1, a2, a3, a4, a5, a6, a7, a8, v 9, v 10, v 11, v 12] := ⟨fun i => ([a0, a1, a2, a3, a4, a5, a6, a7, a8, a9, a10, a11, a12] : St).getD i none, rfl⟩
theorem set_same {α : Type} {l : List α} {i : Nat} {v : α} (h : l[i]? = some v) : l = l.set i v := by
  obtain ⟨hi, e⟩ := List.getElem?_eq_some_iff.mp h
  rw [← e]
  exact (List.set_getElem_self hi).symm
theorem putAt_map {α β : Type} (f : α → β) (l : List α) (p : Nat) (x : α) : (putAt l p x).map f = putAt (l.map f) p (f x) := by
  unfold putAt
  rw [List.map_append, List.map_cons, List.map_take, List.map_drop]
theorem Reps.putAt {H : Hp} {xs : List V} {ds : List Dt} {x : V} {d : Dt} (p : Nat) (h : Reps H xs ds) (hx : Rep H x d) : Reps H (xs.take p ++ x :: xs.drop p) (WR.putAt ds p d) := by
  unfold WR.putAt
  exact Reps.append (h.take p) (.cons hx (h.drop p))
theorem four_at {a b c d m : Int} (h0 : 0 ≤ m) (h1 : m < 4) : ∃ v : Int, atI [V.int a, V.int b, V.int c, V.int d] m = some (.int v) ∧ (v = a ∨ v = b ∨ v = c ∨ v = d) := by
  obtain ⟨j, rfl⟩ := Int.eq_ofNat_of_zero_le h0
  have hj : j < 4 := by omega
  match j, hj with
  | 0, _ => exact ⟨a, by rfl, .inl rfl⟩
  | 1, _ => exact ⟨b, by rfl, .inr (.inl rfl)⟩
  | 2, _ => exact ⟨c, by rfl, .inr (.inr (.inl rfl))⟩
  | 3, _ => exact ⟨d, by rfl, .inr (.inr (.inr rfl))⟩
def toI (H : Hp) (a q : Addr) (first most cell other : Int) (N : Nat) (gr turn : Int) (i : Nat) (σ : St) (H2 : Hp) : Prop := (∃ v : Nat → Option V, σ = [some (.ref a), some (.int first), some (.int most), some (.int cell), some (.int other), some (.int N), some (.int gr), some (.int turn), some (.ref q), v 9, v 10, v 11, v 12]) ∧ Same H H2 ∧ ∃ rs, RoadsAt H2 q rs ∧ Built N turn (i + 1) rs
section
variable {P : Program} {w : World} {K : PySem.W.Frag} {mg : Str → Option Value} {base : Heap} {t : Adr}
theorem ok__law_told (TT : Txt K mg t) : FnOk P w K mg base CX0 2 t.f__law_told t.d__law_told ["_law_script", "_law_first", "_law_most"] (sp_told K) := by
  refine TT.F__law_told.ok sc__law_told (fun vs H Q E h => ?_) (fun cdv A outer sh H vs Q E hr h => ?_)
  · obtain ⟨a, ns, first, most, rfl, _⟩ := h
    rfl
  · obtain ⟨a, ns, first, most, rfl, hS, hf, m1, m2, k⟩ := h
    refine ⟨_, (pss_cons (ps_set (i := 3) sc__law_told.nd rfl (Or.inl rfl) (pe_call (ok__law_cell_at TT) (hr.mono (by decide)) rfl TT.m__law_cell_at TT.F__law_cell_at.kp TT.b__law_cell_at .nil pass0 (pa_cons (pv 0) (pa_cons (pv 1) pa_nil)))) (pss_cons (ps_set (i := 4) sc__law_told.nd rfl (Or.inl rfl) (pe_call (ok__law_cell_at TT) (hr.mono (by decide)) rfl TT.m__law_cell_at TT.F__law_cell_at.kp TT.b__law_cell_at .nil pass0 (pa_cons (pv 0) (pa_consB (pe_op op_add (pv 1) pe_int) pa_nil)))) (pss_cons (ps_set (i := 5) sc__law_told.nd rfl (Or.inl rfl) (pe_op op_add pe_int (pe_op op_mod (pv 3) (pe_callB (call_min2 rfl) rfl TT.z_min WB.bt_min (pa_cons (pv 2) (pa_consC pe_int pa_nil)))))) (pss_cons (ps_join (ps_if (pt_cmpR op_eq (pe_op op_mod (pe_op op_fdiv (pv 3) pe_int) pe_int) pe_int (nomark _)) (pss_one (ps_set (i := 5) sc__law_told.nd rfl (Or.inl rfl) (pe_op op_add pe_int (pe_op op_mod (pe_op op_fdiv (pv 3) pe_int) (pv 2))))) pss_nil) (fun σ H => ∃ cell n0, 1 ≤ n0 ∧ n0 ≤ most ∧ σ[3]? = some (some (.int cell)) ∧ σ[2]? = some (some (.int most)) ∧ σ[5]? = some (some (.int n0))) (fun σ H σ' H' => H = H' ∧ ∃ n : Int, 1 ≤ n ∧ n ≤ most ∧ σ' = σ.set 5 (some (.int n))) ?j0) (pss_cons (ps_set (i := 6) sc__law_told.nd rfl (Or.inl rfl) (pe_ix ix_tup (pe_tup (pa_consC pe_int (pa_consC pe_int (pa_consC pe_int (pa_consC pe_int pa_nil))))) (pe_op op_mod (pe_op op_fdiv (pv 3) pe_int) pe_int) (fun _ _ => rfl))) (pss_cons (ps_set (i := 7) sc__law_told.nd rfl (Or.inl rfl) (pe_ix ix_tup (pe_tup (pa_consC pe_int (pa_consC pe_int (pa_consC pe_int (pa_consC pe_int pa_nil))))) (pe_op op_mod (pe_op op_fdiv (pv 3) pe_int) pe_int) (fun _ _ => rfl))) (pss_cons (ps_set (i := 8) sc__law_told.nd rfl (Or.inl rfl) (pe_lst pa_nil)) (pss_cons (ps_for PassesOwn.never rfl (pi_range2 rfl TT.z_range (pa_consC pe_int (pa_cons (pv 5) pa_nil))) (pg_name (i := 9) sc__law_told.nd rfl (Or.inl rfl)) (pss_cons (ps_set (i := 10) sc__law_told.nd rfl (Or.inl rfl) (pe_call (ok__law_draw TT) (hr.mono (by decide)) rfl TT.m__law_draw TT.F__law_draw.kp TT.b__law_draw .nil pass0 (pa_cons (pv 4) (pa_cons (pv 9) (pa_cons (pv 9) pa_nil))))) (pss_cons (ps_join (ps_if (pt_cmpR op_eq (pe_op op_mod (pe_op op_fdiv (pv 3) pe_int) pe_int) pe_int (nomark _)) (pss_one (ps_set (i := 10) sc__law_told.nd rfl (Or.inl rfl) (pe_callB (call_max2 rfl) rfl TT.z_max WB.bt_max (pa_consC pe_int (pa_consB (pe_op op_sub (pe_op op_sub (pv 9) pe_int) (pe_call (ok__law_draw TT) (hr.mono (by decide)) rfl TT.m__law_draw TT.F__law_draw.kp TT.b__law_draw .nil pass0 (pa_cons (pv 4) (pa_cons (pv 9) (pa_consC pe_int pa_nil))))) pa_nil))))) pss_nil) (fun σ H => ∃ cell other k above, σ[3]? = some (some (.int cell)) ∧ σ[4]? = some (some (.int other)) ∧ σ[9]? = some (some (.int k)) ∧ σ[10]? = some (some (.int above)) ∧ 1 ≤ k ∧ k < 100 ∧ 0 ≤ above ∧ above < k) (fun σ H σ' H' => Same H H' ∧ ∃ ab : Int, 0 ≤ ab ∧ (∀ k, σ[9]? = some (some (.int k)) → ab < k) ∧ σ' = σ.set 10 (some (.int ab))) ?j1) (pss_cons (ps_set (i := 11) sc__law_told.nd rfl (Or.inl rfl) (pe_tup (pa_cons (pe_call (ok__law_name TT) (hr.mono (by decide)) rfl TT.m__law_name TT.F__law_name.kp TT.b__law_name .nil pass0 (pa_cons (pv 9) (pa_cons (pv 5) (pa_cons (pv 7) pa_nil)))) (pa_cons (pe_call (ok__law_name TT) (hr.mono (by decide)) rfl TT.m__law_name TT.F__law_name.kp TT.b__law_name .nil pass0 (pa_cons (pv 10) (pa_cons (pv 5) (pa_cons (pv 7) pa_nil)))) pa_nil)))) (pss_cons (ps_join (ps_if (pt_cmpR op_eq (pe_call (ok__law_draw TT) (hr.mono (by decide)) rfl TT.m__law_draw TT.F__law_draw.kp TT.b__law_draw .nil pass0 (pa_cons (pv 4) (pa_consB (pe_op op_add (pv 9) pe_int) (pa_consC pe_int pa_nil)))) pe_int (nomark _)) (pss_one (ps_set (i := 11) sc__law_told.nd rfl (Or.inl rfl) (pe_tup (pa_cons (pe_ix ix_tup (pv 11) pe_int (fun _ _ => rfl)) (pa_cons (pe_ix ix_tup (pv 11) pe_int (fun _ _ => rfl)) pa_nil))))) pss_nil) (fun σ H => ∃ other k e x y, σ[4]? = some (some (.int other)) ∧ σ[9]? = some (some (.int k)) ∧ σ[11]? = some (some (.ref e)) ∧ 1 ≤ k ∧ k < 100 ∧ H e = some (.tup [.int x, .int y])) (fun σ H σ' H' => Same H H' ∧ ∀ e x y, σ[11]? = some (some (.ref e)) → H e = some (.tup [.int x, .int y]) → ∃ e' x' y', σ' = σ.set 11 (some (.ref e')) ∧ H' e' = some (.tup [.int x', .int y']) ∧ ((x' = x ∧ y' = y) ∨ (x' = y ∧ y' = x))) ?j2) (pss_cons (ps_set (i := 12) sc__law_told.nd rfl (Or.inl rfl) (pe_tup (pa_cons (pe_ix ix_tup (pv 11) pe_int (fun _ _ => rfl)) (pa_cons (pe_ix ix_tup (pv 11) pe_int (fun _ _ => rfl)) (pa_consB (pe_op op_add pe_int (pe_call (ok__law_draw TT) (hr.mono (by decide)) rfl TT.m__law_draw TT.F__law_draw.kp TT.b__law_draw .nil pass0 (pa_cons (pv 4) (pa_consB (pe_op op_add (pv 9) pe_int) (pa_cons (pv 6) pa_nil))))) pa_nil))))) (pss_one (ps_expr (pe_bm PySem.F.plainAttrs_list PySem.F.slot_list_insert PySem.F.type_list_insert mt_insert (pv 8) (pa_cons (pe_call (ok__law_draw TT) (hr.mono (by decide)) rfl TT.m__law_draw TT.F__law_draw.kp TT.b__law_draw .nil pass0 (pa_cons (pv 4) (pa_consB (pe_op op_add (pv 9) pe_int) (pa_consB (pe_op op_add (pe_callB call_len_seq rfl TT.z_len WB.bt_len (pa_cons (pv 8) pa_nil)) pe_int) pa_nil)))) (pa_cons (pv 12) pa_nil))))))))))) (pss_one (ps_ret (pe_tup (pa_cons (pv 5) (pa_cons (pv 8) pa_nil))))))))))))), ?_⟩
    case j0 =>
      rintro σ H0 ⟨cell, n0, n01, n02, h3, h2, h5⟩
      refine ⟨_, h3, _, _, rfl, rfl, ⟨by decide, by decide⟩, _, _, rfl, rfl, (by show (0 : Int) < 6; decide), rfl, _, rfl, ite2 (fun _ => ?_) (fun _ => ?_)⟩
      · refine ⟨_, h3, _, _, rfl, rfl, ⟨by decide, by decide⟩, _, h2, _, _, rfl, rfl, by omega, _, _, rfl, rfl, rfl, _, ?_, ?_, rfl⟩
        · have := Int.emod_nonneg (cell / 42) (show most ≠ 0 by omega); omega
        · have := Int.emod_lt_of_pos (cell / 42) (show 0 < most by omega); omega
      · exact ⟨rfl, n0, n01, n02, set_same h5⟩
    case j1 =>
      rintro σ H0 ⟨cell, other, kk, above, h3, h4, h9, h10, k1, k2, a1, a2⟩
      refine ⟨_, h3, _, _, rfl, rfl, ⟨by decide, by decide⟩, _, _, rfl, rfl, (by show (0 : Int) < 3; decide), rfl, _, rfl, ite2 (fun _ => ?_) (fun _ => ?_)⟩
      · refine ⟨_, h9, _, _, rfl, rfl, _, h4, _, h9, other, kk, 2, rfl, by omega, by omega, by decide, fun r H3 r0 r1 s3 => ⟨_, _, rfl, rfl, _, _, rfl, s3, _, ?_, fun k' e => ?_, rfl⟩⟩
        · split <;> omega
        · have e : kk = k' := by rw [h9] at e; cases e; rfl
          subst e
          split <;> omega
      · exact ⟨Same.refl _, above, a1, fun k' e => by rw [h9] at e; cases e; exact a2, set_same h10⟩
    case j2 =>
      rintro σ H0 ⟨other, kk, e, x, y, h4, h9, h11, k1, k2, he⟩
      refine ⟨_, h4, _, h9, _, _, rfl, rfl, other, _, 2, rfl, by omega, by omega, by decide, fun r H3 r0 r1 s3 => ⟨rfl, _, rfl, ite2 (fun _ => ?_) (fun _ => ?_)⟩⟩
      · have he3 := s3 _ _ he
        refine ⟨_, h11, e, _, 1, _, rfl, rfl, SqT.of he3, atI_nat (j := 1) rfl, _, h11, e, _, 0, _, rfl, rfl, SqT.of he3, atI_nat (j := 0) rfl, by show 2 ≤ sizeLine; decide, fun c hc => ⟨s3.trans (same_new hc), fun e' x' y' q1 q2 => ?_⟩⟩
        have q1 : e = e' := by rw [h11] at q1; cases q1; rfl
        subst q1
        rw [he] at q2
        have q2 : x = x' ∧ y = y' := by simpa using q2
        obtain ⟨rfl, rfl⟩ := q2
        exact ⟨c, y, x, rfl, upd_same, .inr ⟨rfl, rfl⟩⟩
      · refine ⟨s3, fun e' x' y' q1 q2 => ?_⟩
        have q1 : e = e' := by rw [h11] at q1; cases q1; rfl
        subst q1
        rw [he] at q2
        have q2 : x = x' ∧ y = y' := by simpa using q2
        obtain ⟨rfl, rfl⟩ := q2
        exact ⟨e, x, y, set_same h11, s3 _ _ he, .inl ⟨rfl, rfl⟩⟩
    show let B14 : TS := tRet (tTup (tCons (tVar 5) (tCons (tVar 8) tNil))); let B13 : TS := tDrop (tBM K "list" rInsert (tVar 8) (tCons (tCall sp_draw [] E0 (tCons (tVar 4) (tCons (tOp (rI0 fun i j => V.int (i + j)) (tVar 9) (tC (V.int 3))) (tCons (tOp (rI0 fun i j => V.int (i + j)) (tCB (fun xs H_1 Q => ∃ p ys, xs = [V.ref p] ∧ (SqL K H_1 p ys ∨ SqT K H_1 p ys) ∧ Q (V.int ↑(List.length ys)) H_1) (tCons (tVar 8) tNil)) (tC (V.int 1))) tNil)))) (tCons (tVar 12) tNil))); let B12 : TS := tSeq (tAsg (tTup (tCons (tOp (rIxT K) (tVar 11) (tC (V.int 0))) (tCons (tOp (rIxT K) (tVar 11) (tC (V.int 1))) (tCons (tOp (rI0 fun i j => V.int (i + j)) (tC (V.int 1)) (tCall sp_draw [] E0 (tCons (tVar 4) (tCons (tOp (rI0 fun i j => V.int (i + j)) (tVar 9) (tC (V.int 5))) (tCons (tVar 6) tNil))))) tNil)))) (gName 12)) B13; let B11 : TS := tSeq (fun D σ H => (∃ other k e x y, σ[4]? = some (some (V.int other)) ∧ σ[9]? = some (some (V.int k)) ∧ σ[11]? = some (some (V.ref e)) ∧ 1 ≤ k ∧ k < 100 ∧ H e = some (HO.tup [V.int x, V.int y])) ∧ ∀ (σ' : St) (H' : Hp), (Same H H' ∧ ∀ (e : Addr) (x y : Int), σ[11]? = some (some (V.ref e)) → H e = some (HO.tup [V.int x, V.int y]) → ∃ e' x' y', σ' = List.set σ 11 (some (V.ref e')) ∧ H' e' = some (HO.tup [V.int x', V.int y']) ∧ (x' = x ∧ y' = y ∨ x' = y ∧ y' = x)) → Ends.nx D σ' H') B12; let B10 : TS := tSeq (tAsg (tTup (tCons (tCall sp_name [] E0 (tCons (tVar 9) (tCons (tVar 5) (tCons (tVar 7) tNil)))) (tCons (tCall sp_name [] E0 (tCons (tVar 10) (tCons (tVar 5) (tCons (tVar 7) tNil)))) tNil))) (gName 11)) B11; let B9 : TS := tSeq (fun D σ H => (∃ cell other k above, σ[3]? = some (some (V.int cell)) ∧ σ[4]? = some (some (V.int other)) ∧ σ[9]? = some (some (V.int k)) ∧ σ[10]? = some (some (V.int above)) ∧ 1 ≤ k ∧ k < 100 ∧ 0 ≤ above ∧ above < k) ∧ ∀ (σ' : St) (H' : Hp), (Same H H' ∧ ∃ ab, 0 ≤ ab ∧ (∀ (k : Int), σ[9]? = some (some (V.int k)) → ab < k) ∧ σ' = List.set σ 10 (some (V.int ab))) → Ends.nx D σ' H') B10; let B8 : TS := tSeq (tAsg (tCall sp_draw [] E0 (tCons (tVar 4) (tCons (tVar 9) (tCons (tVar 9) tNil)))) (gName 10)) B9; let B7 : TS := tSeq (tFor (iRng2 (tCons (tC (V.int 1)) (tCons (tVar 5) tNil))) (gName 9) B8) B14; let B6 : TS := tSeq (tAsg (tLst tNil) (gName 8)) B7; let B5 : TS := tSeq (tAsg (tOp (rIxT K) (tTup (tCons (tC (V.int 1)) (tCons (tC (V.int 5)) (tCons (tC (V.int 7)) (tCons (tC (V.int 11)) tNil))))) (tOp (rI (fun x j => 0 < j) fun i j => V.int (i % j)) (tOp (rI CDiv fun i j => V.int (i / j)) (tVar 3) (tC (V.int 48))) (tC (V.int 4)))) (gName 7)) B6; let B4 : TS := tSeq (tAsg (tOp (rIxT K) (tTup (tCons (tC (V.int 1)) (tCons (tC (V.int 4)) (tCons (tC (V.int 9)) (tCons (tC (V.int 1000000)) tNil))))) (tOp (rI (fun x j => 0 < j) fun i j => V.int (i % j)) (tOp (rI CDiv fun i j => V.int (i / j)) (tVar 3) (tC (V.int 12))) (tC (V.int 4)))) (gName 6)) B5; let B3 : TS := tSeq (fun D σ H => (∃ cell n0, 1 ≤ n0 ∧ n0 ≤ most ∧ σ[3]? = some (some (V.int cell)) ∧ σ[2]? = some (some (V.int most)) ∧ σ[5]? = some (some (V.int n0))) ∧ ∀ (σ' : St) (H' : Hp), (H = H' ∧ ∃ n, 1 ≤ n ∧ n ≤ most ∧ σ' = List.set σ 5 (some (V.int n))) → Ends.nx D σ' H') B4; let B2 : TS := tSeq (tAsg (tOp (rI0 fun i j => V.int (i + j)) (tC (V.int 1)) (tOp (rI (fun x j => 0 < j) fun i j => V.int (i % j)) (tVar 3) (tCB (fun xs H Q => ∃ i j, xs = [V.int i, V.int j] ∧ Q (V.int (if j < i then j else i)) H) (tCons (tVar 2) (tCons (tC (V.int 7)) tNil))))) (gName 5)) B3; let B1 : TS := tSeq (tAsg (tCall (sp_cell_at K) [] E0 (tCons (tVar 0) (tCons (tOp (rI0 fun i j => V.int (i + j)) (tVar 1) (tC (V.int 1))) tNil))) (gName 4)) B2; tSeq (tAsg (tCall (sp_cell_at K) [] E0 (tCons (tVar 0) (tCons (tVar 1) tNil))) (gName 3)) B1 _ _ _
    intro B14 B13 B12 B11 B10 B9 B8 B7 B6 B5 B4 B3 B2 B1
    -- cell, other
    refine ⟨_, rfl, _, rfl, a, ns, first, rfl, hS, hf, fun cell => ?_⟩
    refine ⟨_, rfl, _, rfl, _, _, rfl, rfl, a, ns, _, rfl, hS, by omega, fun other => ?_⟩
    -- villages = 1 + cell % min(most, 7)
    refine ⟨_, rfl, _, rfl, _, _, rfl, ?_⟩
    have hmin : 0 < (if (7 : Int) < most then 7 else most) ∧ (if (7 : Int) < most then 7 else most) ≤ most := by split <;> omega
    generalize (if (7 : Int) < most then (7 : Int) else most) = mn at hmin ⊢
    refine ⟨_, _, rfl, rfl, hmin.1, _, _, rfl, rfl, ?_⟩
    refine ⟨⟨cell, 1 + cell % mn, ?_, ?_, rfl, rfl, rfl⟩, ?_⟩
    · have := Int.emod_nonneg cell (show mn ≠ 0 by omega); omega
    · have := Int.emod_lt_of_pos cell (show 0 < mn by omega); omega
    rintro σ' H' ⟨rfl, n, n1, n2, rfl⟩
    obtain ⟨N, rfl⟩ := Int.eq_ofNat_of_zero_le (show 0 ≤ n by omega)
    -- greatest, turn
    refine ⟨by show 4 ≤ sizeLine; decide, fun g hg => ?_⟩
    obtain ⟨gr, e1, hgr⟩ := four_at (a := 1) (b := 4) (c := 9) (d := 1000000) (m := cell / 12 % 4) (Int.emod_nonneg _ (by decide)) (Int.emod_lt_of_pos _ (by decide))
    refine ⟨_, rfl, _, _, rfl, rfl, ⟨by decide, by decide⟩, _, _, rfl, rfl, (by show (0 : Int) < 4; decide), g, _, _, _, rfl, rfl, SqT.of upd_same, e1, ?_⟩
    refine ⟨by show 4 ≤ sizeLine; decide, fun u hu => ?_⟩
    obtain ⟨turn, e2, htn⟩ := four_at (a := 1) (b := 5) (c := 7) (d := 11) (m := cell / 48 % 4) (Int.emod_nonneg _ (by decide)) (Int.emod_lt_of_pos _ (by decide))
    refine ⟨_, rfl, _, _, rfl, rfl, ⟨by decide, by decide⟩, _, _, rfl, rfl, (by show (0 : Int) < 4; decide), u, _, _, _, rfl, rfl, SqT.of upd_same, e2, ?_⟩
    have htn : IsTurn turn := htn
    have hgr1 : 1 ≤ gr ∧ gr ≤ 1000000 := by omega
    -- roads = []
    refine ⟨Nat.zero_le _, fun q hq => ?_⟩
    have s1 : Same H (upd H g (.tup [.int 1, .int 4, .int 9, .int 1000000])) := same_new hg
    have s2 := s1.trans (same_new (o := .tup [.int 1, .int 5, .int 7, .int 11]) hu)
    have hq0 : H q = none := s2.free hq
    have s3 := s2.trans (same_new (o := .lst []) hq)
    -- for k in range(1, villages)
    refine ⟨_, rfl, 1, N, rfl, ⟨by decide, by decide, by omega, by omega⟩, ?_⟩
    have eN : ((N : Int) - 1).toNat = N - 1 := by omega
    rw [eN]
    refine for_range (lo := 1) (n := N - 1) (toI H a q first most cell other N gr turn)
      ⟨⟨fun _ => none, rfl⟩, s3, [], ⟨[], upd_same, .nil⟩, Built.begin N turn⟩ ?_ ?_
    · rintro i σ H2 hi ⟨⟨v, rfl⟩, s4, rs, hR, B⟩
      -- above = draw(other, k, k)
      refine ⟨_, rfl, _, rfl, _, rfl, other, _, _, rfl, by omega, by omega, by omega, fun r1 H3 r10 r11 s5 => ?_⟩
      refine ⟨⟨cell, other, 1 + i, r1, rfl, rfl, rfl, rfl, by omega, by omega, r10, r11⟩, ?_⟩
      rintro σ' H4 ⟨s6, ab, ab0, ab1, rfl⟩
      have ab1 := ab1 _ rfl
      obtain ⟨B', rfl⟩ := Int.eq_ofNat_of_zero_le ab0
      -- ends = (name(k), name(above))
      refine ⟨_, rfl, _, rfl, _, rfl, 1 + i, N, turn, rfl, htn, _, rfl, _, rfl, _, rfl, B', N, turn, rfl, htn, by show 2 ≤ sizeLine; decide, fun e he => ?_⟩
      refine ⟨⟨other, 1 + i, e, _, _, rfl, rfl, rfl, by omega, by omega, upd_same⟩, ?_⟩
      rintro σ' H5 ⟨s7, hends⟩
      obtain ⟨e', x', y', rfl, he', hxy⟩ := hends _ _ _ rfl upd_same
      -- road = (ends[0], ends[1], 1 + draw(other, k + 5, greatest))
      refine ⟨_, rfl, e', _, 0, _, rfl, rfl, SqT.of he', atI_nat (j := 0) rfl, _, rfl, e', _, 1, _, rfl, rfl, SqT.of he', atI_nat (j := 1) rfl, _, rfl, _, rfl, _, _, rfl, rfl, _, rfl, other, _, gr, rfl, by omega, by omega, by omega, fun r3 H6 r30 r31 s8 => ⟨_, _, rfl, rfl, by show 3 ≤ sizeLine; decide, fun d hd => ?_⟩⟩
      -- roads.insert(draw(other, k + 3, len(roads) + 1), road)
      have s46 : Same H2 H6 := fun b o z => s8 _ _ (s7 _ _ (same_new he _ _ (s6 _ _ (s5 _ _ z))))
      obtain ⟨xs, hqx, hxs⟩ := hR
      have hqd : q ≠ d := ne_of_none (s46 _ _ hqx) hd
      have hlx := hxs.length
      rw [List.length_map] at hlx
      have hBl := B.len
      have hq7 := same_new (o := .tup [.int x', .int y', .int (1 + r3)]) hd _ _ (s46 _ _ hqx)
      refine ⟨_, rfl, .inl ⟨rfl, _, SqL.of hq7⟩, _, rfl, _, rfl, _, _, rfl, rfl, _, rfl, q, _, rfl, .inl (SqL.of hq7), _, _, rfl, rfl, other, _, _, rfl, by omega, by omega, by omega, fun r4 H8 r40 r41 s9 => ?_⟩
      have hq8 := s9 _ _ hq7
      refine ⟨_, rfl, q, xs, r4, _, rfl, rfl, hq8, by rw [hlx, sizeLine_eq]; omega, r40, by omega, st13, ?_, ?_⟩
      · intro b o z
        rw [upd_ne (ne_of_none z hq0)]
        exact s9 _ _ (same_new hd _ _ (s46 _ _ (s4 _ _ z)))
      · obtain ⟨pp, rfl⟩ := Int.eq_ofNat_of_zero_le r40
        have kt : ∀ b ys, H8 b = some (.tup ys) → (upd H8 q (.lst (xs.take (pp : Int).toNat ++ .ref d :: xs.drop (pp : Int).toNat))) b = some (.tup ys) := fun b ys z => by
          rw [upd_ne]; exact z; intro w; subst w; rw [hq8] at z; cases z
        refine ⟨putAt rs pp (x', y', 1 + r3), ⟨_, upd_same, ?_⟩, ?_⟩
        · rw [putAt_map]
          have h8 : Reps H8 xs (rs.map roadD) := hxs.keep fun b o z => s9 _ _ (same_new hd _ _ (s46 _ _ z))
          refine Reps.putAt _ (h8.froz kt (frozs_roads rs)) ?_
          exact roadD_mk (kt _ _ (s9 _ _ upd_same))
        · have e3 : (1 : Int) + (i : Int) = ((i + 1 : Nat) : Int) := by omega
          rw [e3] at hxy
          refine B.step htn (by omega) (by omega) (a := B') (by omega) (by omega) (l := 1 + r3) (by omega) (by omega) ?_
          rcases hxy with ⟨rfl, rfl⟩ | ⟨rfl, rfl⟩
          · exact .inl rfl
          · exact .inr rfl
    · rintro σ H2 ⟨⟨v1, v2, v3, v4, rfl⟩, s4, rs, hR, B⟩
      refine ⟨_, rfl, _, rfl, by show 2 ≤ sizeLine; decide, fun p hp => ?_⟩
      have hpq : p ≠ q := fun z => by subst z; obtain ⟨xs, h1, _⟩ := hR; rw [h1] at hp; cases hp
      have eN2 : N - 1 + 1 = N := by omega
      rw [eN2] at B
      refine k p q N rs _ (s4.free hp) hq0 hpq (s4.trans (same_new hp)) upd_same (hR.keep (same_new hp)) ⟨n1, by omega, ?_⟩ n2
      exact B.tree htn (by omega)
end
end WR
namespace WR
open PySem L2
def intsD (ns : List Int) : Dt := .lst (ns.map fun i => .v (.int i))
theorem reps_ints {H : Hp} : ∀ ns : List Int, Reps H (ns.map V.int) (ns.map fun i => .v (.int i))
  | [] => .nil
  | n :: r => .cons (.int n) (reps_ints r)
end WR
namespace WR
open PySem L2
def spLaw (K : PySem.W.Frag) (P1 P2 : Addr) : Sp := fun vs H Q _ => ∃ (a : Addr) (ns : List Int), vs = [.ref a] ∧ SqL K H a (ns.map V.int) ∧ ns.length ≤ 63 ∧ H P1 = some (.tbl #[]) ∧ H P2 = some (.tbl #[]) ∧ ∀ H', Q (.bl true) H'
theorem depDs_roads (rs : List Road) : depDs (rs.map roadD) ≤ 1 := by
  induction rs with
  | nil => unfold List.map depDs; exact Nat.zero_le _
  | cons r t ih =>
    rw [List.map_cons]
    unfold depDs
    have : depD (roadD r) ≤ 1 := by unfold roadD depD depDs depDs depDs depDs depD; simp
    omega
theorem dep_roads (rs : List Road) : depD (.lst (rs.map roadD)) ≤ 8 := by
  unfold depD
  have := depDs_roads rs
  omega
theorem rowM_get {n : Nat} {rs : List Road} {s : Int} {i : Nat} (h : i < n) : (rowM n rs s)[i]? = some (far n rs s i) := by
  unfold rowM
  rw [List.getElem?_map, List.getElem?_range h]
  rfl
/-- a fresh thing is written: what stood before stands -/
theorem same_upd {H H' : Hp} {p : Addr} {o : HO} (s : Same H H') (h : H p = none) : Same H (upd H' p o) := fun b u e => by rw [upd_ne (ne_of_none e h)]; exact s _ _ e
end WR
namespace WR
open PySem L2
/-! ### rows of ints -/
def RowsAt (H : Hp) (r : Addr) (rows : List (List Int)) : Prop := ∃ ps : List Addr, H r = some (.lst (ps.map V.ref)) ∧ Paired (fun c row => H c = some (.lst (row.map V.int))) ps rows
theorem RowsAt.keep {H H' : Hp} {r : Addr} {rows : List (List Int)} (k : Same H H') (h : RowsAt H r rows) : RowsAt H' r rows := let ⟨ps, h1, h2⟩ := h; ⟨ps, k _ _ h1, Paired.mapP h2 fun _ _ z => k _ _ z⟩
theorem ints_get {ns : List Int} {i : Nat} {x : V} (h : (ns.map V.int)[i]? = some x) : ∃ v, ns[i]? = some v ∧ x = .int v := by
  rw [List.getElem?_map] at h
  cases q : ns[i]? with
  | none => rw [q] at h; cases h
  | some v => rw [q] at h; cases h; exact ⟨v, rfl, rfl⟩
theorem ints_at {ns : List Int} {i : Nat} {v : Int} (h : ns[i]? = some v) : (ns.map V.int)[i]? = some (.int v) := by rw [List.getElem?_map, h]; rfl
theorem getD_at {ns : List Int} {i : Nat} {v : Int} (h : ns[i]? = some v) : ns.getD i 0 = v := by rw [List.getD_eq_getElem?_getD, h]; rfl
theorem at_getD {ns : List Int} {i : Nat} (h : i < ns.length) : ns[i]? = some (ns.getD i 0) := by rw [List.getD_eq_getElem?_getD, List.getElem?_eq_getElem h]; rfl
/-- the places below i at which P holds -/
def placesTo (P : Nat → Bool) (i : Nat) : List Int := ((List.range i).filter P).map fun (k : Nat) => (k : Int)
/-- where the least stands -/
def leastP (ns : List Int) : List Int := placesTo (fun k => decide (ns.getD k 0 = minI ns)) ns.length
/-- the sum of the first i products -/
def dotTo (a b : Nat → Int) (i : Nat) : List Int := (List.range i).map fun k => a k * b k
end WR
namespace WR
open PySem L2
/-! ### Posts -/
theorem po_ne : ¬ (("pairs" : Str) = "posts") := by decide +kernel
def pflds (p q : Addr) : List (Str × V) := putF "posts" (.ref q) (putF "pairs" (.ref p) [])
theorem pflds_pairs (p q : Addr) : (pflds p q).lookup ("pairs" : Str) = some (.ref p) := by
  unfold pflds
  rw [lookup_putF, if_neg po_ne, lookup_putF, if_pos rfl]
theorem pflds_posts (p q : Addr) : (pflds p q).lookup ("posts" : Str) = some (.ref q) := by
  unfold pflds
  rw [lookup_putF, if_pos rfl]
theorem pflds_noshows (p q : Addr) : (pflds p q).lookup ("shows" : Str) = none := by
  unfold pflds
  rw [lookup_putF, if_neg (by decide +kernel), lookup_putF, if_neg (by decide +kernel)]
  all_goals rfl
structure PostsAt (C : Addr) (H : Hp) (x p q : Addr) (ks vs : List Int) : Prop where
  ob : ∃ dx, H x = some (.ins C dx (pflds p q))
  ks : H p = some (.lst (ks.map V.int))
  vs : H q = some (.lst (vs.map V.int))
theorem PostsAt.keep {C : Addr} {H H' : Hp} {x p q : Addr} {ks vs : List Int} (W : PostsAt C H x p q ks vs) (k : Same H H') : PostsAt C H' x p q ks vs := ⟨let ⟨dx, h⟩ := W.ob; ⟨dx, k _ _ h⟩, k _ _ W.ks, k _ _ W.vs⟩
def sp_Posts_init (C : Addr) : Sp := fun vs H Q _ => ∃ (x dx p q : Addr) (ws cs : List Int), vs = [.ref x, .ref p, .ref q] ∧ H x = some (.ins C dx []) ∧ H p = some (.lst (ws.map V.int)) ∧ H q = some (.lst (cs.map V.int)) ∧
  ∀ p' q' H', H p' = none → H q' = none → p' ≠ q' → PostsAt C H' x p' q' ws cs → (∀ b o, H b = some o → b ≠ x → H' b = some o) → Q .non H'
def sp_are_below : Sp := fun vs H Q _ => ∃ (a : Addr) (ws : List Int) (m : Int), vs = [.ref a, .int m] ∧ H a = some (.lst (ws.map V.int)) ∧ (∀ x ∈ ws, 0 ≤ x ∧ x < m) ∧ ws.length ≤ 1000 ∧ ∀ H', Same H H' → Q (.bl true) H'
def sp_none_meet : Sp := fun vs H Q _ => ∃ (a : Addr) (rs : List Road), vs = [.ref a] ∧ RoadsAt H a rs ∧ rs.length ≤ 400 ∧ ∀ H' b, Same H H' → (b = true ↔ ((rs.map fun r => r.1) ++ rs.map fun r => r.2.1).Nodup) → Q (.bl b) H'
def sp_all_posted : Sp := fun vs H Q _ => ∃ (a p : Addr) (rs : List Road) (ps : List Int), vs = [.ref a, .ref p] ∧ RoadsAt H a rs ∧ rs.length ≤ 400 ∧ H p = some (.lst (ps.map V.int)) ∧ ∀ H' b, Same H H' → (b = true ↔ ∀ r ∈ rs, r.1 ∈ ps ∨ r.2.1 ∈ ps) → Q (.bl b) H'
def sp_inner_end : Sp := fun vs H Q _ => ∃ (a l : Addr) (r : Road) (ks : List Int), vs = [.ref a, .ref l] ∧ H a = some (.tup [.int r.1, .int r.2.1, .int r.2.2]) ∧ H l = some (.lst (ks.map V.int)) ∧ (0 ≤ r.1 ∧ r.1 < ks.length) ∧ (0 ≤ r.2.1 ∧ r.2.1 < ks.length) ∧
  Q (.int (if ks.getD r.1.toNat 0 < ks.getD r.2.1.toNat 0 then r.1 else r.2.1)) H
theorem take_map_next {α β : Type} {l : List α} {i : Nat} {a : α} (f : α → β) (h : l[i]? = some a) : (l.take (i + 1)).map f = (l.take i).map f ++ [f a] := by
  rw [List.take_add_one, h, List.map_append]; rfl
theorem inV_ints (a : Int) : ∀ ns : List Int, inV (.int a) (ns.map V.int) = decide (a ∈ ns)
  | [] => by simp [inV]
  | n :: ns => by
    have ih := inV_ints a ns
    unfold inV at ih ⊢
    rw [List.map_cons, List.any_cons, ih]
    by_cases e : n = a
    · subst e; simp [eqV]
    · have : eqV (.int n) (.int a) = false := by simpa [eqV] using e
      rw [this]
      simp [Ne.symm e]
theorem flat_ints : ∀ ns : List Int, (ns.map V.int).all flatV = true
  | [] => rfl
  | _ :: ns => flat_ints ns
section
variable {P : Program} {w : World} {K : PySem.W.Frag} {mg : Str → Option Value} {base : Heap} {t : Adr}
theorem ok_Posts_init (TT : Txt K mg t) : FnOk P w K mg base CX0 1 t.f_Posts_init t.d_Posts_init ["self", "pairs", "posts"] (sp_Posts_init t.C_Posts) := by
  refine TT.F_Posts_init.ok sc_Posts_init (fun vs H Q E h => ?_) (fun cdv A outer sh H vs Q E hr h => ?_)
  · obtain ⟨x, dx, p, q, ws, cs, rfl, _⟩ := h
    rfl
  · obtain ⟨x, dx, p, q, ws, cs, rfl, hx, hp, hq, k⟩ := h
    refine ⟨_, (pss_cons (ps_fld (pv 0) (pe_callTy call_list_of rfl TT.z_list WB.bt_list (pa_cons (pv 1) pa_nil)) rfl) (pss_one (ps_fld (pv 0) (pe_callTy call_list_of rfl TT.z_list WB.bt_list (pa_cons (pv 2) pa_nil)) rfl))), ?_⟩
    refine ⟨_, rfl, p, _, rfl, .inl (SqL.of hp), fun p' hp' => ?_⟩
    refine ⟨_, rfl, x, t.C_Posts, dx, _, rfl, (by rw [upd_ne (ne_of_none hx hp')]; exact hx), TT.cl_Posts, TT.n_Posts_pairs, by show 0 < 1000; decide, ?_⟩
    have qx : q ≠ x := ne_of hq hx (by intro z; cases z)
    have qp : q ≠ p' := ne_of_none hq hp'
    have px : p' ≠ x := (ne_of_none hx hp').symm
    refine ⟨_, rfl, q, _, rfl, .inl (SqL.of (by rw [upd_ne qx, upd_ne qp]; exact hq)), fun q' hq' => ?_⟩
    have q1 : q' ≠ x := fun z => by subst z; rw [upd_same] at hq'; cases hq'
    have q2 : q' ≠ p' := fun z => by subst z; rw [upd_ne px, upd_same] at hq'; cases hq'
    have q3 : H q' = none := by rw [upd_ne q1, upd_ne q2] at hq'; exact hq'
    refine ⟨_, rfl, x, t.C_Posts, dx, _, rfl, by rw [upd_ne q1.symm, upd_same], TT.cl_Posts, TT.n_Posts_posts, by show 1 < 1000; decide, ?_⟩
    refine k p' q' _ hp' q3 q2.symm ⟨⟨dx, upd_same⟩, ?_, ?_⟩ fun b o e hb => ?_
    · rw [upd_ne px, upd_ne q2.symm, upd_ne px, upd_same]
    · rw [upd_ne q1, upd_same]
    · rw [upd_ne hb, upd_ne (ne_of_none e q3), upd_ne hb, upd_ne (ne_of_none e hp')]; exact e
theorem ok_are_below (TT : Txt K mg t) : FnOk P w K mg base CX0 3 t.f_are_below t.d_are_below ["values", "many"] sp_are_below := by
  refine TT.F_are_below.ok sc_are_below (fun vs H Q E h => ?_) (fun cdv A outer sh H vs Q E hr h => ?_)
  · obtain ⟨a, ws, m, rfl, _⟩ := h
    rfl
  · obtain ⟨a, ws, m, rfl, ha, hin, hl, k⟩ := h
    refine ⟨_, (pss_one (ps_ret (pe_and (pe_callB call_isinst rfl TT.z_isinstance WB.bt_isinstance (pa_cons (pv 0) (pa_cons (pe_bltn (v := .ty "list") rfl TT.z_list WB.bt_list rfl) pa_nil))) (pe_one (pe_callB (call_all rfl) rfl TT.z_all WB.bt_all (pa_cons (pe_comp rfl (N := ["value", "many"]) (fr := [(1, 1)]) (compOk (N0 := ["values", "many"]) (N := ["value", "many"]) (fr := [(1, 1)]) (sc0 := defScope s_are_below) rfl ⟨rfl, rfl⟩ (by decide +kernel)) (pi_list (pv 0)) (fun _ _ _ _ _ => ⟨(pg_name (i := 0) (show (["value", "many"] : List Str).Nodup by decide +kernel) rfl (Or.inl rfl)), pf_none, (pe_call (ok_is_whole TT) (hr.mono (by decide)) rfl TT.m_is_whole TT.F_is_whole.kp TT.b_is_whole .nil pass0 (pa_cons (pv 0) (pa_consC pe_int (pa_consB (pe_op op_sub (pv 1) pe_int) pa_nil))))⟩)) pa_nil)))))), ?_⟩
    refine ⟨_, rfl, _, "list", .type "list", true, rfl, .lst ha, kit_ll, true, rfl, iteT ?_⟩
    refine ⟨_, rfl, a, rfl, ⟨_, SqL.of ha⟩, fun acc hacc => comp_list (K := K) (xs := ws.map V.int) (fun i τ ys H2 => (∃ v, τ = [v, some (.int m)]) ∧ ys = ((ws.take i).map fun _ => true).map V.bl ∧ H2 acc = some (.lst ys) ∧ Same H H2) ⟨⟨_, rfl⟩, rfl, upd_same, same_new hacc⟩
      (fun i τ ys H2 _ ⟨_, _, h3, h4⟩ => ⟨SqL.of (h4 _ _ ha), h3⟩) ?_ ?_⟩
    · rintro i v τ ys H2 R hi ⟨⟨o, rfl⟩, rfl, h3, h4⟩ hR
      obtain ⟨x, hx, rfl⟩ := ints_get hi
      have hb := hin x (List.mem_of_getElem? hx)
      refine noifN ?_
      refine ⟨_, rfl, _, rfl, _, _, rfl, rfl, _, _, _, rfl, .int _, ?_⟩
      refine ⟨h3, by simp only [List.length_map, List.length_take]; rw [sizeLine_eq]; omega, hR _ _ _ ⟨⟨_, rfl⟩, ?_, upd_same, same_upd h4 hacc⟩⟩
      rw [take_map_next _ hx, List.map_append, wholeV_iff.mpr ⟨by omega, by omega⟩]
      rfl
    · rintro τ ys H2 ⟨⟨o, rfl⟩, rfl, h3, h4⟩
      refine ⟨acc, _, rfl, SqL.of h3, ?_⟩
      have : ((List.take (List.map V.int ws).length ws).map fun _ => true).all id = true := by
        rw [List.all_eq_true]
        intro b hb
        obtain ⟨_, _, rfl⟩ := List.mem_map.mp hb
        rfl
      rw [this]; exact k H2 h4
theorem ok_inner_end (TT : Txt K mg t) : FnOk P w K mg base CX0 1 t.f_inner_end t.d_inner_end ["road", "lengths"] sp_inner_end := by
  refine TT.F_inner_end.ok sc_inner_end (fun vs H Q E h => ?_) (fun cdv A outer sh H vs Q E hr h => ?_)
  · obtain ⟨a, l, r, ks, rfl, _⟩ := h
    rfl
  · obtain ⟨a, l, ⟨ra, rb, rc⟩, ks, rfl, ha, hl, ⟨a0, a1⟩, ⟨b0, b1⟩, k⟩ := h
    refine ⟨_, (pss_one (ps_ret (pe_ifExp (pt_cmpR op_lt (pe_ix ix_list (pv 1) (pe_ix ix_tup (pv 0) pe_int (fun _ _ => rfl)) (fun _ _ => rfl)) (pe_ix ix_list (pv 1) (pe_ix ix_tup (pv 0) pe_int (fun _ _ => rfl)) (fun _ _ => rfl)) (nomark _)) (pe_ix ix_tup (pv 0) pe_int (fun _ _ => rfl)) (pe_ix ix_tup (pv 0) pe_int (fun _ _ => rfl))))), ?_⟩
    have ha : H a = some (.tup [.int ra, .int rb, .int rc]) := ha
    have a0 : 0 ≤ ra := a0
    have a1 : ra < ks.length := a1
    have b0 : 0 ≤ rb := b0
    have b1 : rb < ks.length := b1
    have k : Q (.int (if ks.getD ra.toNat 0 < ks.getD rb.toNat 0 then ra else rb)) H := k
    refine ⟨_, rfl, _, rfl, a, _, 0, _, rfl, rfl, SqT.of ha, atI_nat (j := 0) rfl, l, _, _, .int (ks.getD ra.toNat 0), rfl, rfl, SqL.of hl, atI_int (j := ra.toNat) (by omega) (ints_at (at_getD (by omega))),
      _, rfl, _, rfl, a, _, 1, _, rfl, rfl, SqT.of ha, atI_nat (j := 1) rfl, l, _, _, .int (ks.getD rb.toNat 0), rfl, rfl, SqL.of hl, atI_int (j := rb.toNat) (by omega) (ints_at (at_getD (by omega))), _, _, rfl, rfl, _, rfl, ?_⟩
    by_cases c : ks.getD ra.toNat 0 < ks.getD rb.toNat 0
    · rw [if_pos c] at k
      exact ite_t (by simpa using c) ⟨_, rfl, a, _, 0, _, rfl, rfl, SqT.of ha, atI_nat (j := 0) rfl, k⟩
    · rw [if_neg c] at k
      exact ite_f (by simpa using c) ⟨_, rfl, a, _, 1, _, rfl, rfl, SqT.of ha, atI_nat (j := 1) rfl, k⟩
end
end WR
namespace WR
open PySem L2 PyProof.Rows
theorem any_mem {l : List Int} {k : Int} : (l.any (· == k)) = true ↔ k ∈ l := by
  rw [List.any_eq_true]
  exact ⟨fun ⟨x, hx, e⟩ => by have : x = k := by simpa using e
                              subst this; exact hx, fun h => ⟨k, h, by simp⟩⟩
theorem range_getD (ns : List Int) : (List.range ns.length).map (fun i => ns.getD i 0) = ns := by
  refine List.ext_getElem (by simp) fun i h1 h2 => ?_
  rw [List.getElem_map, List.getElem_range, List.getD_eq_getElem?_getD, List.getElem?_eq_getElem h2]
  rfl
theorem firstMet_nd (val : Nat → Int) : ∀ i, (firstMet val i).Nodup
  | 0 => by rw [firstMet_zero]; exact List.nodup_nil
  | i + 1 => by
    rw [firstMet_succ]
    unfold step_dedup
    split
    · exact firstMet_nd val i
    · rename_i h
      rw [List.nodup_append]
      refine ⟨firstMet_nd val i, List.nodup_cons.mpr ⟨by simp, List.nodup_nil⟩, fun a ha b hb z => ?_⟩
      have : b = val i := by simpa using hb
      subst this
      subst z
      exact h (any_mem.mpr ha)
theorem firstMet_set (ns : List Int) : (firstMet (fun i => ns.getD i 0) ns.length).length ≤ ns.length ∧ ((firstMet (fun i => ns.getD i 0) ns.length).length = ns.length ↔ ns.Nodup) := by
  refine set_len (firstMet_nd _ _) fun x => ?_
  rw [← any_mem, firstMet_any, range_getD, any_mem]
section
variable {P : Program} {w : World} {K : PySem.W.Frag} {mg : Str → Option Value} {base : Heap} {t : Adr}
theorem ok_none_meet (TT : Txt K mg t) : FnOk P w K mg base CX0 1 t.f_none_meet t.d_none_meet ["roads"] sp_none_meet := by
  refine TT.F_none_meet.ok sc_none_meet (fun vs H Q E h => ?_) (fun cdv A outer sh H vs Q E hr h => ?_)
  · obtain ⟨a, rs, rfl, _⟩ := h
    rfl
  · obtain ⟨a, rs, rfl, hR, hl, k⟩ := h
    refine ⟨_, (pss_cons (ps_set (i := 1) sc_none_meet.nd rfl (Or.inl rfl) (pe_op op_cat (pe_comp rfl (N := ["road"]) (fr := []) (compOk (N0 := ["roads", "ends"]) (N := ["road"]) (fr := []) (sc0 := defScope s_none_meet) (n0 := 0) rfl ⟨rfl, rfl⟩ (by decide +kernel)) (pi_list (pv 0)) (fun _ _ _ _ _ => ⟨(pg_name (i := 0) (show (["road"] : List Str).Nodup by decide +kernel) rfl (Or.inl rfl)), pf_none, (pe_ix (ix_tupK (K := K) rfl) (pv 0) pe_int (fun _ _ => rfl))⟩)) (pe_comp rfl (N := ["road"]) (fr := []) (compOk (N0 := ["roads", "ends"]) (N := ["road"]) (fr := []) (sc0 := defScope s_none_meet) (n0 := 0) rfl ⟨rfl, rfl⟩ (by decide +kernel)) (pi_list (pv 0)) (fun _ _ _ _ _ => ⟨(pg_name (i := 0) (show (["road"] : List Str).Nodup by decide +kernel) rfl (Or.inl rfl)), pf_none, (pe_ix (ix_tupK (K := K) rfl) (pv 0) pe_int (fun _ _ => rfl))⟩)))) (pss_one (ps_ret (pe_cmpR op_eq (pe_callB call_lenSet rfl TT.z_len WB.bt_len (pa_cons (pe_callTy (call_setL rfl) rfl TT.z_set WB.bt_set (pa_cons (pv 1) pa_nil)) pa_nil)) (pe_callB call_len_seq rfl TT.z_len WB.bt_len (pa_cons (pv 1) pa_nil)) (nomark _))))), ?_⟩
    obtain ⟨xs, hq, hxs⟩ := hR
    have hlx := hxs.length
    rw [List.length_map] at hlx
    refine ⟨_, rfl, a, rfl, ⟨_, SqL.of hq⟩, fun c1 hc1 => comp_list (K := K) (xs := xs) (fun i τ ys H2 => (∃ v, τ = [v]) ∧ ys = ((rs.take i).map fun r => r.1).map V.int ∧ H2 c1 = some (.lst ys) ∧ Same H H2) ⟨⟨_, rfl⟩, rfl, upd_same, same_new hc1⟩
      (fun i τ ys H2 _ ⟨_, _, h3, h4⟩ => ⟨SqL.of (h4 _ _ hq), h3⟩) ?_ ?_⟩
    · rintro i z τ ys H2 R hi ⟨⟨o, rfl⟩, rfl, h3, h4⟩ hR
      obtain ⟨r, ad, hri, rfl, ha⟩ := RoadsAt.get hq hxs hi
      refine noifN ?_
      refine ⟨_, rfl, ad, _, 0, _, rfl, rfl, SqT.of (h4 _ _ ha), atI_nat (j := 0) rfl, h3, by simp only [List.length_map, List.length_take]; rw [sizeLine_eq]; omega, hR _ _ _ ⟨⟨_, rfl⟩, ?_, upd_same, same_upd h4 hc1⟩⟩
      rw [take_map_next _ hri, List.map_append]
      rfl
    rintro τ ys H2 ⟨⟨o, rfl⟩, rfl, h3, s2⟩
    rw [hlx, List.take_length] at h3
    refine ⟨_, rfl, a, rfl, ⟨_, SqL.of (s2 _ _ hq)⟩, fun c2 hc2 => comp_list (K := K) (xs := xs) (fun i τ ys H3 => (∃ v, τ = [v]) ∧ ys = ((rs.take i).map fun r => r.2.1).map V.int ∧ H3 c2 = some (.lst ys) ∧ Same H2 H3) ⟨⟨_, rfl⟩, rfl, upd_same, same_new hc2⟩
      (fun i τ ys H3 _ ⟨_, _, h5, h6⟩ => ⟨SqL.of (h6 _ _ (s2 _ _ hq)), h5⟩) ?_ ?_⟩
    · rintro i z τ ys H3 R hi ⟨⟨o, rfl⟩, rfl, h5, h6⟩ hR
      obtain ⟨r, ad, hri, rfl, ha⟩ := RoadsAt.get hq hxs hi
      refine noifN ?_
      refine ⟨_, rfl, ad, _, 1, _, rfl, rfl, SqT.of (h6 _ _ (s2 _ _ ha)), atI_nat (j := 1) rfl, h5, by simp only [List.length_map, List.length_take]; rw [sizeLine_eq]; omega, hR _ _ _ ⟨⟨_, rfl⟩, ?_, upd_same, same_upd h6 hc2⟩⟩
      rw [take_map_next _ hri, List.map_append]
      rfl
    rintro τ ys H3 ⟨⟨o, rfl⟩, rfl, h5, s3⟩
    rw [hlx, List.take_length] at h5
    refine ⟨c1, c2, _, _, rfl, rfl, s3 _ _ h3, h5, by simp only [List.length_map]; rw [sizeLine_eq]; omega, fun en hen => ?_⟩
    rw [← List.map_append]
    have s4 : Same H (upd H3 en (.lst (((rs.map fun r => r.1) ++ rs.map fun r => r.2.1).map V.int))) := (s2.trans s3).trans (same_new hen)
    have he : upd H3 en (.lst (((rs.map fun r => r.1) ++ rs.map fun r => r.2.1).map V.int)) en = some (.lst (((rs.map fun r => r.1) ++ rs.map fun r => r.2.1).map V.int)) := upd_same
    have hel : ((rs.map fun r => r.1) ++ rs.map fun r => r.2.1).length < 1000 := by rw [List.length_append, List.length_map, List.length_map]; omega
    generalize upd H3 en (.lst (((rs.map fun r => r.1) ++ rs.map fun r => r.2.1).map V.int)) = H4 at s4 he ⊢
    generalize ((rs.map fun r => r.1) ++ rs.map fun r => r.2.1) = es at he hel k ⊢
    obtain ⟨_, iff⟩ := firstMet_set es
    refine ⟨_, rfl, en, es, rfl, SqL.of he, hel, fun st S hst => ?_⟩
    refine ⟨st, S, _, rfl, upd_same, _, rfl, en, _, rfl, .inl (SqL.of (same_new hst _ _ he)), rfl, ?_⟩
    refine k _ _ (s4.trans (same_new hst)) ?_
    rw [List.length_map, ← iff]
    constructor
    · intro z
      have := of_decide_eq_true z
      injection this with this
      omega
    · intro z
      rw [z]
      exact decide_eq_true rfl
end
end WR
namespace WR
open PySem L2
section
variable {P : Program} {w : World} {K : PySem.W.Frag} {mg : Str → Option Value} {base : Heap} {t : Adr}
theorem ok_all_posted (TT : Txt K mg t) : FnOk P w K mg base CX0 1 t.f_all_posted t.d_all_posted ["roads", "posts"] sp_all_posted := by
  refine TT.F_all_posted.ok sc_all_posted (fun vs H Q E h => ?_) (fun cdv A outer sh H vs Q E hr h => ?_)
  · obtain ⟨a, p, rs, ps, rfl, _⟩ := h
    rfl
  · obtain ⟨a, p, rs, ps, rfl, hR, hl, hp, k⟩ := h
    refine ⟨_, (pss_one (ps_ret (pe_callB (call_all rfl) rfl TT.z_all WB.bt_all (pa_cons (pe_comp rfl (N := ["road", "posts"]) (fr := [(1, 1)]) (compOk (N0 := ["roads", "posts"]) (N := ["road", "posts"]) (fr := [(1, 1)]) (sc0 := defScope s_all_posted) rfl ⟨rfl, rfl⟩ (by decide +kernel)) (pi_list (pv 0)) (fun _ _ _ _ _ => ⟨(pg_name (i := 0) (show (["road", "posts"] : List Str).Nodup by decide +kernel) rfl (Or.inl rfl)), pf_none, (pe_or (pe_cmpR (op_in_seqK (K := K) rfl) (pe_ix (ix_tupK (K := K) rfl) (pv 0) pe_int (fun _ _ => rfl)) (pv 1) (by with_unfolding_all rfl)) (pe_one (pe_cmpR (op_in_seqK (K := K) rfl) (pe_ix (ix_tupK (K := K) rfl) (pv 0) pe_int (fun _ _ => rfl)) (pv 1) (by with_unfolding_all rfl))))⟩)) pa_nil)))), ?_⟩
    obtain ⟨xs, hq, hxs⟩ := hR
    have hlx := hxs.length
    rw [List.length_map] at hlx
    refine ⟨_, rfl, a, rfl, ⟨_, SqL.of hq⟩, fun acc hacc => comp_list (K := K) (xs := xs) (fun i τ ys H2 => (∃ v, τ = [v, some (.ref p)]) ∧ ys = ((rs.take i).map fun r => decide (r.1 ∈ ps) || decide (r.2.1 ∈ ps)).map V.bl ∧ H2 acc = some (.lst ys) ∧ Same H H2) ⟨⟨_, rfl⟩, rfl, upd_same, same_new hacc⟩
      (fun i τ ys H2 _ ⟨_, _, h3, h4⟩ => ⟨SqL.of (h4 _ _ hq), h3⟩) ?_ ?_⟩
    · rintro i z τ ys H2 R hi ⟨⟨o, rfl⟩, rfl, h3, h4⟩ hR
      obtain ⟨⟨ra, rb, rc⟩, ad, hri, rfl, ha⟩ := RoadsAt.get hq hxs hi
      have hp2 := h4 _ _ hp
      have fin : ∀ b, b = (decide (ra ∈ ps) || decide (rb ∈ ps)) → H2 acc = some (.lst (((rs.take i).map fun r => decide (r.1 ∈ ps) || decide (r.2.1 ∈ ps)).map V.bl)) ∧ (((rs.take i).map fun r => decide (r.1 ∈ ps) || decide (r.2.1 ∈ ps)).map V.bl).length < sizeLine ∧
          R [some (.ref ad), some (.ref p)] (((rs.take i).map fun r => decide (r.1 ∈ ps) || decide (r.2.1 ∈ ps)).map V.bl ++ [.bl b]) (upd H2 acc (.lst (((rs.take i).map fun r => decide (r.1 ∈ ps) || decide (r.2.1 ∈ ps)).map V.bl ++ [.bl b]))) := fun b hb => by
        refine ⟨h3, by simp only [List.length_map, List.length_take]; rw [sizeLine_eq]; omega, hR _ _ _ ⟨⟨_, rfl⟩, ?_, upd_same, same_upd h4 hacc⟩⟩
        rw [take_map_next _ hri, List.map_append, hb]
        rfl
      refine noifN ?_
      refine ⟨_, rfl, ad, _, 0, _, rfl, rfl, SqT.of (h4 _ _ ha), atI_nat (j := 0) rfl, _, rfl, p, _, rfl, .inl (SqL.of hp2), rfl, flat_ints ps, _, rfl, ?_⟩
      rw [show (if false = true then !inV (V.int ra) (ps.map V.int) else inV (V.int ra) (ps.map V.int)) = decide (ra ∈ ps) by rw [inV_ints]; rfl]
      by_cases c : ra ∈ ps
      · refine ite_t (decide_eq_true c) ?_
        exact fin _ (by rw [decide_eq_true c]; rfl)
      · refine ite_f (decide_eq_false c) ?_
        refine ⟨_, rfl, ad, _, 1, _, rfl, rfl, SqT.of (h4 _ _ ha), atI_nat (j := 1) rfl, _, rfl, p, _, rfl, .inl (SqL.of hp2), rfl, flat_ints ps, ?_⟩
        exact fin _ (by rw [decide_eq_false c, inV_ints]; rfl)
    · rintro τ ys H2 ⟨⟨o, rfl⟩, rfl, h3, s2⟩
      rw [hlx, List.take_length] at h3
      refine ⟨acc, _, rfl, SqL.of h3, k H2 _ s2 ?_⟩
      rw [List.all_eq_true]
      constructor
      · intro z r hr
        have := z _ (List.mem_map.mpr ⟨r, hr, rfl⟩)
        simpa using this
      · intro z b hb
        obtain ⟨r, hr, rfl⟩ := List.mem_map.mp hb
        simpa using z r hr
end
end WR
namespace WR
open PySem L2
theorem posted_iff {rs : List Road} {ks ps : List Int} {m : Int} : postedM rs ks ps m = true ↔ m = ks.length ∧ m = ps.length ∧ (endsM rs ks).Nodup ∧ ∀ r ∈ rs, r.1 ∈ ps ∨ r.2.1 ∈ ps := by
  unfold postedM
  rw [Bool.and_eq_true, Bool.and_eq_true, Bool.and_eq_true]
  simp only [decide_eq_true_eq, and_assoc]
theorem bool_of_iff {b c : Bool} (h : b = true ↔ c = true) : b = c := by
  cases b <;> cases c <;> simp_all
def sp_shows (t : Adr) : Sp := fun vs H Q _ => ∃ (x p q y yq : Addr) (ks ps : List Int) (n : Int) (rs : List Road) (m : Int), vs = [.ref x, .ref y, .int m] ∧ PostsAt t.C_Posts H x p q ks ps ∧ TreeAt t.C_Tree H y yq n rs ∧ (∀ k ∈ ks, 0 ≤ k ∧ k < rs.length) ∧ (∀ v ∈ ps, 0 ≤ v ∧ v < n) ∧ ks.length ≤ 100 ∧ ps.length ≤ 100 ∧
  ∀ H', Same H H' → Q (.bl (postedM rs ks ps m)) H'
/-- the roads at some places -/
def someR (rs : List Road) (ks : List Int) : List Road := ks.map fun k => rs.getD k.toNat (0, 0, 0)
theorem someR_ends (rs : List Road) (ks : List Int) : ((someR rs ks).map fun r => r.1) ++ (someR rs ks).map (fun r => r.2.1) = endsM rs ks := by
  unfold someR endsM
  rw [List.map_map, List.map_map]
  rfl
section
variable {P : Program} {w : World} {K : PySem.W.Frag} {mg : Str → Option Value} {base : Heap} {t : Adr}
theorem ok_Posts_shows (TT : Txt K mg t) : FnOk P w K mg base CX0 5 t.f_Posts_shows t.d_Posts_shows ["self", "tree", "number"] (sp_shows t) := by
  refine TT.F_Posts_shows.ok sc_Posts_shows (fun vs H Q E h => ?_) (fun cdv A outer sh H vs Q E hr h => ?_)
  · obtain ⟨x, p, q, y, yq, ks, ps, n, rs, m, rfl, _⟩ := h
    rfl
  · obtain ⟨x, p, q, y, yq, ks, ps, n, rs, m, rfl, W, T, i1, i2, l1, l2, k⟩ := h
    refine ⟨_, (pss_cons (ps_set (i := 3) sc_Posts_shows.nd rfl (Or.inr rfl) (pe_meth0 (pv 1) TT.cl_Tree TT.M_Tree_roads (ok_Tree_roads TT) (hr.mono (by decide)) TT.b_Tree_roads .nil pass0)) (pss_cons (ps_if (PW.pt (pw_or (pt_not (pt_val (pe_call (ok_are_below TT) (hr.mono (by decide)) rfl TT.m_are_below TT.F_are_below.kp TT.b_are_below .nil pass0 (pa_cons (pe_fld (pv 0) rfl) (pa_cons (pe_callB call_len_seq rfl TT.z_len WB.bt_len (pa_cons (pv 3) pa_nil)) pa_nil))))) (pw_or1 (pt_not (pt_val (pe_call (ok_are_below TT) (hr.mono (by decide)) rfl TT.m_are_below TT.F_are_below.kp TT.b_are_below .nil pass0 (pa_cons (pe_fld (pv 0) rfl) (pa_cons (pe_fld (pv 1) rfl) pa_nil)))))))) (pss_one (ps_ret pe_bl)) pss_nil) (pss_cons (ps_if (PW.pt (pw_or (pt_not (pt_val (pe_call (ok_is_number TT) (hr.mono (by decide)) rfl TT.m_is_number TT.F_is_number.kp TT.b_is_number .nil pass0 (pa_cons (pv 2) pa_nil)))) (pw_or (pt_cmpR op_ne (pe_callB call_len_seq rfl TT.z_len WB.bt_len (pa_cons (pe_fld (pv 0) rfl) pa_nil)) (pv 2) (nomark _)) (pw_or1 (pt_cmpR op_ne (pe_callB call_len_seq rfl TT.z_len WB.bt_len (pa_cons (pe_fld (pv 0) rfl) pa_nil)) (pv 2) (nomark _)))))) (pss_one (ps_ret pe_bl)) pss_nil) (pss_one (ps_ret (pe_and (pe_call (ok_none_meet TT) (hr.mono (by decide)) rfl TT.m_none_meet TT.F_none_meet.kp TT.b_none_meet .nil pass0 (pa_cons (pe_comp rfl (N := ["at", "roads"]) (fr := [(1, 3)]) (compOk (N0 := ["self", "tree", "number", "roads"]) (N := ["at", "roads"]) (fr := [(1, 3)]) (sc0 := defScope s_Posts_shows) rfl ⟨rfl, rfl⟩ (by decide +kernel)) (pi_list (pe_fld (pv 0) rfl)) (fun _ _ _ _ _ => ⟨(pg_name (i := 0) (show (["at", "roads"] : List Str).Nodup by decide +kernel) rfl (Or.inl rfl)), pf_none, (pe_ix (ix_listK (K := K) rfl) (pv 1) (pv 0) (fun _ _ => rfl))⟩)) pa_nil)) (pe_one (pe_call (ok_all_posted TT) (hr.mono (by decide)) rfl TT.m_all_posted TT.F_all_posted.kp TT.b_all_posted .nil pass0 (pa_cons (pv 3) (pa_cons (pe_fld (pv 0) rfl) pa_nil)))))))))), ?_⟩
    show let B3 : TS := tRet (tAndV (tCall sp_none_meet [] E0 (tCons (tComp (List.length [Str.ofString "at", Str.ofString "roads"]) [(1, 3)] (iList K (tFld K (tVar 0) (Str.ofString "pairs"))) (gName 0) tNoIf (tOp (rIxL K) (tVar 1) (tVar 0))) tNil)) (tCall sp_all_posted [] E0 (tCons (tVar 3) (tCons (tFld K (tVar 0) (Str.ofString "posts")) tNil)))); let B2 : TS := tSeq (tIfS (tOr (tNot (tB (tCall sp_is_number [] E0 (tCons (tVar 2) tNil)))) (tOr (tTest (tOp rNe (tCB (fun xs H_1 Q => ∃ p ys, xs = [V.ref p] ∧ (SqL K H_1 p ys ∨ SqT K H_1 p ys) ∧ Q (V.int ↑(List.length ys)) H_1) (tCons (tFld K (tVar 0) (Str.ofString "pairs")) tNil)) (tVar 2))) (tTest (tOp rNe (tCB (fun xs H_1 Q => ∃ p ys, xs = [V.ref p] ∧ (SqL K H_1 p ys ∨ SqT K H_1 p ys) ∧ Q (V.int ↑(List.length ys)) H_1) (tCons (tFld K (tVar 0) (Str.ofString "posts")) tNil)) (tVar 2))))) (tRet (tC (V.bl false))) tNext) B3; let B1 : TS := tSeq (tIfS (tOr (tNot (tB (tCall sp_are_below [] E0 (tCons (tFld K (tVar 0) (Str.ofString "pairs")) (tCons (tCB (fun xs H_1 Q => ∃ p ys, xs = [V.ref p] ∧ (SqL K H_1 p ys ∨ SqT K H_1 p ys) ∧ Q (V.int ↑(List.length ys)) H_1) (tCons (tVar 3) tNil)) tNil))))) (tNot (tB (tCall sp_are_below [] E0 (tCons (tFld K (tVar 0) (Str.ofString "posts")) (tCons (tFld K (tVar 1) (Str.ofString "size")) tNil)))))) (tRet (tC (V.bl false))) tNext) B2; tSeq (tAsg (tMeth (Adr.C_Tree t) (Str.ofString "roads") (sp_Tree_roads (Adr.C_Tree t)) [] E0 (tVar 1) tNil) (gName 3)) B1 _ _ _
    intro B3 B2 B1
    obtain ⟨dx, hx⟩ := W.ob
    have hp := W.ks
    have hq := W.vs
    obtain ⟨dy, hy⟩ := T.ob
    have n1 := T.ok.1
    have n2 := T.ok.2.1
    have hcnt := T.ok.2.2.count
    -- roads = tree.roads()
    refine ⟨_, rfl, y, dy, _, rfl, hy, flds_noroads _ _, y, yq, n, rs, rfl, T, fun rq H1 hrq s1 hR => ?_⟩
    obtain ⟨xs, hr1, hxs⟩ := hR
    have hlx := hxs.length
    rw [List.length_map] at hlx
    -- are_below
    refine ⟨_, rfl, x, t.C_Posts, dx, _, _, rfl, s1 _ _ hx, TT.cl_Posts, TT.n_Posts_pairs, pflds_pairs _ _, _, rfl, rq, _, rfl, .inl (SqL.of hr1), p, ks, _, rfl, s1 _ _ hp, (by rw [hlx]; exact i1), by omega, fun H2 s2 => ⟨_, rfl, iteF ?_⟩⟩
    have s12 := s1.trans s2
    refine ⟨_, rfl, x, t.C_Posts, dx, _, _, rfl, s12 _ _ hx, TT.cl_Posts, TT.n_Posts_posts, pflds_posts _ _, _, rfl, y, t.C_Tree, dy, _, _, rfl, s12 _ _ hy, TT.cl_Tree, TT.n_Tree_size, flds_size _ _, q, ps, n, rfl, s12 _ _ hq, i2, by omega, fun H3 s3 => ⟨_, rfl, iteF ?_⟩⟩
    have s13 := s12.trans s3
    have s23 := s2.trans s3
    -- the numbers
    refine ⟨_, rfl, _, rfl, .int _, _, rfl, iteF ?_⟩
    refine ⟨_, rfl, x, t.C_Posts, dx, _, _, rfl, s13 _ _ hx, TT.cl_Posts, TT.n_Posts_pairs, pflds_pairs _ _, p, _, rfl, .inl (SqL.of (s13 _ _ hp)), _, rfl, rfl, _, rfl, ?_⟩
    rw [List.length_map]
    by_cases c1 : (ks.length : Int) = m
    · refine ite_f (by rw [c1]; simp) ?_
      refine ⟨_, rfl, x, t.C_Posts, dx, _, _, rfl, s13 _ _ hx, TT.cl_Posts, TT.n_Posts_posts, pflds_posts _ _, q, _, rfl, .inl (SqL.of (s13 _ _ hq)), _, rfl, rfl, _, rfl, ?_⟩
      rw [List.length_map]
      by_cases c2 : (ps.length : Int) = m
      · refine ite_f (by rw [c2]; simp) ?_
        -- [roads[at] for at in self.pairs]
        refine ⟨_, rfl, x, t.C_Posts, dx, _, _, rfl, s13 _ _ hx, TT.cl_Posts, TT.n_Posts_pairs, pflds_pairs _ _, p, rfl, ⟨_, SqL.of (s13 _ _ hp)⟩, fun acc hacc => comp_list (K := K) (xs := ks.map V.int) (fun i τ ys H4 => (∃ v, τ = [v, some (.ref rq)]) ∧ H4 acc = some (.lst ys) ∧ Same H3 H4 ∧ Reps H4 ys ((someR rs (ks.take i)).map roadD)) ⟨⟨_, rfl⟩, upd_same, same_new hacc, .nil⟩
          (fun i τ ys H4 _ ⟨_, h3, h4, _⟩ => ⟨SqL.of (h4 _ _ (s13 _ _ hp)), h3⟩) ?_ ?_⟩
        · rintro i z τ ys H4 R hi ⟨⟨o, rfl⟩, h3, h4, hys⟩ hR
          obtain ⟨kk, hk, rfl⟩ := ints_get hi
          obtain ⟨k0, k1⟩ := i1 kk (List.mem_of_getElem? hk)
          have hat : xs[kk.toNat]? = some (xs[kk.toNat]'(by omega)) := List.getElem?_eq_getElem (by omega)
          obtain ⟨r, ad, hri, hxe, ha⟩ := RoadsAt.get hr1 hxs hat
          have ha4 := h4 _ _ (s23 _ _ ha)
          have hly := hys.length
          unfold someR at hly
          rw [List.length_map, List.length_map, List.length_take] at hly
          refine noifN ?_
          refine ⟨_, rfl, _, rfl, rq, _, _, .ref ad, rfl, rfl, SqL.of (h4 _ _ (s23 _ _ hr1)), atI_int (j := kk.toNat) (by omega) (by rw [hat, hxe]), h3, by rw [sizeLine_eq]; omega, hR _ _ _ ⟨⟨_, rfl⟩, upd_same, same_upd h4 hacc, ?_⟩⟩
          have e : someR rs (ks.take (i + 1)) = someR rs (ks.take i) ++ [r] := by
            unfold someR
            rw [take_map_next _ hk, List.getD_eq_getElem?_getD, hri]
            rfl
          rw [e, List.map_append]
          have fz : ∀ b ws, H4 b = some (.tup ws) → upd H4 acc (.lst (ys ++ [.ref ad])) b = some (.tup ws) := fun b ws z => by
            rw [upd_ne (ne_of z h3 (by intro q; cases q))]; exact z
          exact Reps.append (hys.froz fz (frozs_roads _)) (.cons (roadD_mk (fz _ _ ha4)) .nil)
        · rintro τ ys H4 ⟨⟨o, rfl⟩, h3, h4, hys⟩
          rw [List.length_map, List.take_length] at hys
          refine ⟨acc, someR rs ks, rfl, ⟨ys, h3, hys⟩, by unfold someR; rw [List.length_map]; omega, fun H5 b5 s5 hb5 => ⟨b5, rfl, ?_⟩⟩
          rw [someR_ends] at hb5
          have s15 := s13.trans (h4.trans s5)
          have s25 := s23.trans (h4.trans s5)
          cases b5 with
          | false =>
            refine iteF ?_
            have : postedM rs ks ps m = false := by
              cases e : postedM rs ks ps m with
              | false => rfl
              | true => exact absurd (hb5.mpr (posted_iff.mp e).2.2.1) (by decide)
            rw [this] at k
            exact k H5 s15
          | true =>
            refine iteT ?_
            refine ⟨_, rfl, _, rfl, x, t.C_Posts, dx, _, _, rfl, s15 _ _ hx, TT.cl_Posts, TT.n_Posts_posts, pflds_posts _ _, rq, q, rs, ps, rfl, RoadsAt.keep s25 ⟨xs, hr1, hxs⟩, by omega, s15 _ _ hq, fun H6 b6 s6 hb6 => ?_⟩
            have : b6 = postedM rs ks ps m := bool_of_iff (by rw [posted_iff, hb6]; exact ⟨fun z => ⟨c1.symm, c2.symm, hb5.mp rfl, z⟩, fun z => z.2.2.2⟩)
            rw [this]
            exact k H6 (s15.trans s6)
      · refine ite_t (by simpa using c2) ?_
        have : postedM rs ks ps m = false := by
          cases e : postedM rs ks ps m with
          | false => rfl
          | true => exact absurd (posted_iff.mp e).2.1.symm c2
        rw [this] at k
        exact k H3 s13
    · refine ite_t (by simpa using c1) ?_
      have : postedM rs ks ps m = false := by
        cases e : postedM rs ks ps m with
        | false => rfl
        | true => exact absurd (posted_iff.mp e).1.symm c1
      rw [this] at k
      exact iteT (k H3 s13)
end
end WR
namespace WR
open PySem L2
/-! ### the table of the def that makes a lambda -/
def posP : Pos := match ((defBody s_paired)[4]? : Option Stmt) with
  | some (.For _ (.Call _ _ [⟨_, .Lambda _ _ _ p, _⟩] _) _ _ _) => p
  | _ => ⟨0, 0, 0, 0⟩
def qualP : Str := ("paired" : Str) ++ ".<locals>." ++ ("<lambda>" : Str)
structure Lams (t : Adr) (H : Hp) : Prop where
  pr : LamT H t.P_paired posP qualP
theorem lamT_keep {H H' : Hp} {P : Addr} {pos : Pos} {q : Str} (L : LamT H P pos q) (k : ∀ b o, H b = some o → (∀ xs, o ≠ .lst xs) → (∀ ps, o = .tbl ps → b = P) → H' b = some o) : LamT H' P pos q := by
  obtain ⟨ps, h1, h2, h3⟩ := L
  refine ⟨ps, k _ _ h1 (fun _ z => by cases z) (fun _ _ => rfl), h2, ?_⟩
  rcases h3 with h | ⟨c, h, hc⟩
  · exact .inl h
  · exact .inr ⟨c, h, k _ _ hc (fun _ z => by cases z) fun _ z => by cases z⟩
theorem Lams.same {t : Adr} {H H' : Hp} (L : Lams t H) (s : Same H H') : Lams t H' := ⟨lamT_keep L.pr fun b o e _ _ => s b o e⟩
theorem Lams.put {t : Adr} {H : Hp} {p : Addr} {o0 o : HO} (L : Lams t H) (e : H p = some o0) (n1 : ∀ ps, o0 ≠ .tbl ps) (n2 : ∀ f, o0 ≠ .ext f) : Lams t (upd H p o) := by
  have g : ∀ {P : Addr} {pos : Pos} {q : Str}, LamT H P pos q → LamT (upd H p o) P pos q := fun {P pos q} z => by
    obtain ⟨ps, h1, h2, h3⟩ := z
    refine ⟨ps, by rw [upd_ne (fun q => by subst q; rw [e] at h1; cases h1; exact n1 _ rfl)]; exact h1, h2, ?_⟩
    rcases h3 with h | ⟨c, h, hc⟩
    · exact .inl h
    · exact .inr ⟨c, h, by rw [upd_ne (fun q => by subst q; rw [e] at hc; cases hc; exact n2 _ rfl)]; exact hc⟩
  exact ⟨g L.pr⟩
/-- all that stood stands, but for the table -/
structure KL (t : Adr) (H H' : Hp) : Prop where
  keep : ∀ b o, H b = some o → b ≠ t.P_paired → H' b = some o
  lam : Lams t H
  lam' : Lams t H'
section
variable {t : Adr} {H H' H'' : Hp}
theorem KL.of (L : Lams t H) (s : Same H H') : KL t H H' := ⟨fun b o e _ => s b o e, L, L.same s⟩
theorem KL.refl (L : Lams t H) : KL t H H := .of L (Same.refl H)
theorem KL.trans (k : KL t H H') (k' : KL t H' H'') : KL t H H'' := ⟨fun b o e h1 => k'.keep b o (k.keep b o e h1) h1, k.lam, k'.lam'⟩
theorem KL.same (k : KL t H H') (s : Same H' H'') : KL t H H'' := k.trans (.of k.lam' s)
theorem Lams.tbl (L : Lams t H) : ∃ ps, H t.P_paired = some (.tbl ps) := let ⟨ps, h, _⟩ := L.pr; ⟨ps, h⟩
theorem KL.get (k : KL t H H') {b : Addr} {o : HO} (e : H b = some o) (h : ∀ ps, o ≠ .tbl ps) : H' b = some o := by
  refine k.keep b o e (fun z => ?_)
  obtain ⟨ps, q⟩ := k.lam.tbl
  rw [z, q] at e; cases e; exact h _ rfl
theorem KL.l (k : KL t H H') {b : Addr} {xs : List V} (e : H b = some (.lst xs)) : H' b = some (.lst xs) := k.get e fun _ z => by cases z
theorem KL.tu (k : KL t H H') {b : Addr} {xs : List V} (e : H b = some (.tup xs)) : H' b = some (.tup xs) := k.get e fun _ z => by cases z
theorem KL.i (k : KL t H H') {b C dx : Addr} {fs : List (Str × V)} (e : H b = some (.ins C dx fs)) : H' b = some (.ins C dx fs) := k.get e fun _ z => by cases z
theorem KL.free (k : KL t H H') {b : Addr} (e : H' b = none) : H b = none := by
  cases q : H b with
  | none => rfl
  | some o =>
    by_cases h1 : b = t.P_paired
    · obtain ⟨ps, z⟩ := k.lam'.tbl
      rw [← h1, e] at z; cases z
    · rw [k.keep b o q h1] at e; cases e
theorem KL.putO (k : KL t H H') {p : Addr} {o0 o : HO} (h0 : H p = none) (e : H' p = some o0) (n1 : ∀ ps, o0 ≠ .tbl ps) (n2 : ∀ f, o0 ≠ .ext f) : KL t H (upd H' p o) :=
  ⟨fun b u z h1 => by rw [upd_ne (ne_of_none z h0)]; exact k.keep b u z h1, k.lam, k.lam'.put e n1 n2⟩
theorem KL.put (k : KL t H H') {p : Addr} {xs : List V} {o : HO} (h0 : H p = none) (e : H' p = some (.lst xs)) : KL t H (upd H' p o) := k.putO h0 e (fun _ z => by cases z) fun _ z => by cases z
theorem KL.grew (L : Lams t H) (kt : KeepT t.P_paired H H') (l : LamT H' t.P_paired posP qualP) : KL t H H' := ⟨fun b o e h1 => kt b o e h1, L, ⟨l⟩⟩
end
theorem TreeAt.lift {C : Addr} {H H' : Hp} {x q : Addr} {n : Int} {rs : List Road} (T : TreeAt C H x q n rs) (h1 : ∀ b C dx fs, H b = some (.ins C dx fs) → H' b = some (.ins C dx fs)) (h2 : ∀ b xs, H b = some (.lst xs) → H' b = some (.lst xs)) (h3 : ∀ b xs, H b = some (.tup xs) → H' b = some (.tup xs)) : TreeAt C H' x q n rs :=
  ⟨let ⟨dx, e⟩ := T.ob; ⟨dx, h1 _ _ _ _ e⟩, let ⟨xs, e, r⟩ := T.rd; ⟨xs, h2 _ _ e, r.froz h3 (frozs_roads rs)⟩, T.ok⟩
theorem TreeAt.keepL {t : Adr} {C : Addr} {H H' : Hp} {x q : Addr} {n : Int} {rs : List Road} (T : TreeAt C H x q n rs) (k : KL t H H') : TreeAt C H' x q n rs := T.lift (fun _ _ _ _ e => k.i e) (fun _ _ e => k.l e) fun _ _ e => k.tu e
theorem outS : OuterS (defArgs s_outer_length) (defBody s_outer_length) (defScope s_outer_length) "road" "lengths" :=
  ⟨⟨_, _, _, _, _, _, _, _, _, _, _, _, _, _, _, rfl⟩, fun _ _ _ _ _ _ _ _ _ _ => rfl, rfl, rfl, rfl, rfl, rfl, rfl, by decide +kernel, by decide +kernel, by decide +kernel, by decide +kernel⟩
end WR
namespace WR
open PySem L2
theorem room1 {k : Nat} {A : Around} (r : Room k A) : A.depth + 1 < recursionLimit := by have := r.dp; omega
theorem roads_as {H : Hp} : ∀ {rs : List Road} {xs : List V}, Reps H xs (rs.map roadD) → ∃ as : List Addr, xs = as.map V.ref ∧ Paired (fun a (r : Int × Int × Int) => H a = some (.tup [.int r.1, .int r.2.1, .int r.2.2])) as rs
  | [], xs, h => by
    have := h.length
    exact ⟨[], List.eq_nil_of_length_eq_zero this, .nil⟩
  | r :: rs, xs, h => by
    rw [List.map_cons] at h
    unfold Reps at h
    obtain ⟨x, xr, rfl, hx, hr⟩ := h
    obtain ⟨a, e, ha⟩ := roadD_at hx
    obtain ⟨as, e2, hp⟩ := roads_as hr
    exact ⟨a :: as, by rw [e, e2]; rfl, .cons ha hp⟩
def PFound (n : Nat) (rs : List Road) (ks ps : List Int) : Prop := ∃ (pre prs : List Int), (∀ k : Nat, k < rs.length → (k : Int) ∈ pre) ∧ (∀ k ∈ prs, 0 ≤ k ∧ k < rs.length) ∧ Paird n rs (pre.map Int.toNat) (prs.map Int.toNat) ∧ ks.Perm prs ∧ ps.Perm (prs.map fun k => inM n rs (rs.getD k.toNat (0, 0, 0)))
def sp_paired (t : Adr) : Sp := fun vs H Q _ => ∃ (x q : Addr) (n : Int) (rs : List Road), vs = [.ref x] ∧ TreeAt t.C_Tree H x q n rs ∧ Lams t H ∧
  ∀ x' p q ks ps H', H x' = none → H p = none → H q = none → p ≠ q → KL t H H' → PostsAt t.C_Posts H' x' p q ks ps → ks.Pairwise (· ≤ ·) → ps.Pairwise (· ≤ ·) → PFound n.toNat rs ks ps → Q (.ref x') H'
theorem pair_take {R : Int → Int → Prop} {ms : List Int} {i : Nat} {v : Int} (h : ms.Pairwise R) (e : ms[i]? = some v) : ∀ c ∈ ms.take i, R c v := by
  intro c hc
  have h' : (ms.take i ++ ms.drop i).Pairwise R := by rw [List.take_append_drop]; exact h
  rw [List.pairwise_append] at h'
  refine h'.2.2 c hc v ?_
  rw [List.mem_iff_getElem?]
  exact ⟨0, by rw [List.getElem?_drop]; simpa using e⟩
/-- a turn of the greedy walk -/
theorem turn_of {n : Nat} {rs : List Road} (W : Tree n rs) {pre prs : List Int} {k : Nat} {r : Road} (D : Paird n rs (pre.map Int.toNat) (prs.map Int.toNat)) (hprs : ∀ k ∈ prs, 0 ≤ k ∧ k < rs.length) (hpre : ∀ j ∈ pre, 0 ≤ j) (hk : rs[k]? = some r) (nk : (k : Int) ∉ pre) (ho : ∀ (j : Int) s, j ∈ pre → rs[j.toNat]? = some s → outM n rs r ≤ outM n rs s) :
    ((endsM rs (prs ++ [(k : Int)])).Nodup → Paird n rs ((pre ++ [(k : Int)]).map Int.toNat) ((prs ++ [(k : Int)]).map Int.toNat)) ∧ (¬ (endsM rs (prs ++ [(k : Int)])).Nodup → Paird n rs ((pre ++ [(k : Int)]).map Int.toNat) (prs.map Int.toNat)) := by
  have hl : k < rs.length := (List.getElem?_eq_some_iff.mp hk).1
  have hall : ∀ j ∈ prs ++ [(k : Int)], 0 ≤ j ∧ j < rs.length := fun j hj => by
    rcases List.mem_append.mp hj with hj | hj
    · exact hprs j hj
    · rw [List.mem_singleton.mp hj]; omega
  have iff := W.ends_nodup (prs ++ [(k : Int)]) hall
  rw [(ends_perm rs (prs ++ [(k : Int)])).nodup_iff, List.pairwise_append] at iff
  have ek : ((k : Int)).toNat = k := Int.toNat_natCast k
  constructor
  · intro h
    have a := (iff.mp h).2.2
    rw [List.map_append, List.map_append, List.map_singleton, ek]
    refine D.add hk fun j hj m => ?_
    obtain ⟨j', hj', rfl⟩ := List.mem_map.mp hj
    have := a j' hj' (k : Int) (by simp)
    rw [ek] at this
    exact this m
  · intro h
    rw [List.map_append, List.map_singleton, ek]
    refine D.skip W hk (fun z => ?_) (Classical.byContradiction fun z => h (iff.mpr ⟨?_, List.pairwise_singleton _ _, fun j hj i hi m => ?_⟩)) fun j s hj hs => ?_
    · obtain ⟨j', hj', e⟩ := List.mem_map.mp z
      have := hpre j' hj'
      exact nk (by rw [show (k : Int) = j' by omega]; exact hj')
    · have := D.apart
      rw [List.pairwise_map] at this
      exact this
    · have : i = (k : Int) := by simpa using hi
      subst this
      rw [ek] at m
      exact z ⟨j.toNat, List.mem_map.mpr ⟨j, hj, rfl⟩, m⟩
    · obtain ⟨j', hj', rfl⟩ := List.mem_map.mp hj
      exact ho j' s hj' hs
theorem outK_eq {n : Nat} {rs : List Road} (R : Roads n rs) {j : Int} {r : Road} (h : rs[j.toNat]? = some r) : outK (rowM n rs ((0 : Nat) : Int)) rs j = - outM n rs r := by
  have m := List.mem_of_getElem? h
  have a := R.lo r m
  have b := R.hi r m
  unfold outK
  rw [List.getD_eq_getElem?_getD, h]
  obtain ⟨ra, rb, rc⟩ := r
  have a1 : 0 ≤ ra := a.1
  have a2 : 0 ≤ rb := a.2
  have b1 : ra < n := b.1
  have b2 : rb < n := b.2
  obtain ⟨x, rfl⟩ := Int.eq_ofNat_of_zero_le a1
  obtain ⟨y, rfl⟩ := Int.eq_ofNat_of_zero_le a2
  show - (if (rowM n rs ((0 : Nat) : Int)).getD ((y : Int)).toNat 0 > (rowM n rs ((0 : Nat) : Int)).getD ((x : Int)).toNat 0 then (rowM n rs ((0 : Nat) : Int)).getD ((y : Int)).toNat 0 else (rowM n rs ((0 : Nat) : Int)).getD ((x : Int)).toNat 0) = _
  rw [Int.toNat_natCast, Int.toNat_natCast, getD_at (rowM_get (show x < n by omega)), getD_at (rowM_get (show y < n by omega))]
  rfl
end WR
namespace WR
open PySem L2
theorem inR_eq {n : Nat} {rs : List Road} (R : Roads n rs) {k : Nat} {r : Road} (h : rs[k]? = some r) : (if (rowM n rs 0).getD r.1.toNat 0 < (rowM n rs 0).getD r.2.1.toNat 0 then r.1 else r.2.1) = inM n rs r := by
  have m := List.mem_of_getElem? h
  have a := R.lo r m
  have b := R.hi r m
  obtain ⟨ra, rb, rc⟩ := r
  have a1 : 0 ≤ ra := a.1
  have a2 : 0 ≤ rb := a.2
  have b1 : ra < n := b.1
  have b2 : rb < n := b.2
  obtain ⟨x, rfl⟩ := Int.eq_ofNat_of_zero_le a1
  obtain ⟨y, rfl⟩ := Int.eq_ofNat_of_zero_le a2
  show (if (rowM n rs 0).getD ((x : Int)).toNat 0 < (rowM n rs 0).getD ((y : Int)).toNat 0 then ((x : Nat) : Int) else ((y : Nat) : Int)) = _
  rw [Int.toNat_natCast, Int.toNat_natCast, getD_at (rowM_get (show x < n by omega)), getD_at (rowM_get (show y < n by omega))]
  rfl
theorem nodup_at {ms : List Int} {i j : Nat} {v : Int} (nd : ms.Nodup) (h1 : ms[i]? = some v) (h2 : ms[j]? = some v) : i = j := by
  obtain ⟨l1, e1⟩ := List.getElem?_eq_some_iff.mp h1
  obtain ⟨l2, e2⟩ := List.getElem?_eq_some_iff.mp h2
  exact (List.getElem_inj nd).mp (e1.trans e2.symm)
section
variable {P : Program} {w : World} {K : PySem.W.Frag} {mg : Str → Option Value} {base : Heap} {t : Adr}
theorem ok_paired (TT : Txt K mg t) (LB : LamB base mg t) : FnOk P w K mg base CX0 4 t.f_paired t.d_paired ["tree"] (sp_paired t) := by
  refine TT.F_paired.okC TT.cd_paired sc_paired (fun vs H Q E h => ?_) (fun A outer sh H vs Q E hr h => ?_)
  · obtain ⟨x, q, n, rs, rfl, _⟩ := h
    rfl
  · obtain ⟨x, q, n, rs, rfl, T, L, k⟩ := h
    obtain ⟨oc, od, kV, doc, pm, an, cdv, ct, osl, hfd, lkO, hcdO⟩ := TT.F_outer_length.ex
    rw [hfd] at lkO
    refine ⟨_, (pss_cons (ps_set (i := 1) sc_paired.nd rfl (Or.inr rfl) (pe_call (ok_distances_from TT) (hr.mono (by decide)) rfl TT.m_distances_from TT.F_distances_from.kp TT.b_distances_from .nil pass0 (pa_cons (pv 0) (pa_consC pe_int pa_nil)))) (pss_cons (ps_set (i := 2) sc_paired.nd rfl (Or.inr rfl) (pe_meth0 (pv 0) TT.cl_Tree TT.M_Tree_roads (ok_Tree_roads TT) (hr.mono (by decide)) TT.b_Tree_roads .nil pass0)) (pss_cons (ps_set (i := 3) sc_paired.nd rfl (Or.inl rfl) (pe_lst pa_nil)) (pss_cons (ps_set (i := 4) sc_paired.nd rfl (Or.inl rfl) (pe_lst pa_nil)) (pss_cons (ps_for PassesOwn.never rfl (pi_list (pe_sortOut qualP 2 1 rfl LB.c_paired LB.bm rfl rfl (room1 (hr.mono (j := 2) (by decide)).in1.in1) rfl TT.z_sorted WB.bt_sorted (pe_callTy call_range1 rfl TT.z_range WB.bt_range (pa_cons (pe_callB call_len_seq rfl TT.z_len WB.bt_len (pa_cons (pv 2) pa_nil)) pa_nil)) rfl ⟨fun _ _ _ _ _ _ => rfl, rfl, rfl, rfl, rfl, by decide +kernel⟩ rfl rfl rfl rfl rfl (fun _ e => e) rfl rfl (fun _ e => e) rfl lkO hcdO TT.F_outer_length.kp outS TT.m_outer_length TT.z_max WB.bt_max)) (pg_name (i := 5) sc_paired.nd rfl (Or.inl rfl)) (pss_one (ps_if (pt_val (pe_call (ok_none_meet TT) (hr.mono (by decide)) rfl TT.m_none_meet TT.F_none_meet.kp TT.b_none_meet .nil pass0 (pa_cons (pe_comp rfl (N := ["number", "roads"]) (fr := [(1, 2)]) (compOk (N0 := ["tree", "lengths", "roads", "pairs", "posts", "at"]) (N := ["number", "roads"]) (fr := [(1, 2)]) (sc0 := defScope s_paired) rfl ⟨rfl, rfl⟩ (by decide +kernel)) (pi_list (pe_op op_cat (pv 3) (pe_lst (pa_cons (pv 5) pa_nil)))) (fun _ _ _ _ _ => ⟨(pg_name (i := 0) (show (["number", "roads"] : List Str).Nodup by decide +kernel) rfl (Or.inl rfl)), pf_none, (pe_ix (ix_listK (K := K) rfl) (pv 1) (pv 0) (fun _ _ => rfl))⟩)) pa_nil))) (pss_cons (ps_expr (pe_bm PySem.F.plainAttrs_list PySem.F.slot_list_append PySem.F.type_list_append mt_append (pv 3) (pa_cons (pv 5) pa_nil))) (pss_one (ps_expr (pe_bm PySem.F.plainAttrs_list PySem.F.slot_list_append PySem.F.type_list_append mt_append (pv 4) (pa_cons (pe_call (ok_inner_end TT) (hr.mono (by decide)) rfl TT.m_inner_end TT.F_inner_end.kp TT.b_inner_end .nil pass0 (pa_cons (pe_ix ix_list (pv 2) (pv 5) (fun _ _ => rfl)) (pa_cons (pv 1) pa_nil))) pa_nil))))) pss_nil))) (pss_one (ps_ret (pe_make TT.M_Posts (ok_Posts_init TT) (hr.mono (by decide)) rfl TT.m_Posts TT.b_Posts_init .nil pass0 (pa_cons (pe_callB call_sortedL rfl TT.z_sorted WB.bt_sorted (pa_cons (pv 3) pa_nil)) (pa_cons (pe_callB call_sortedL rfl TT.z_sorted WB.bt_sorted (pa_cons (pv 4) pa_nil)) pa_nil)))))))))), ?_⟩
    show let B5 : TS := tRet (tMake (Adr.C_Posts t) (sp_Posts_init (Adr.C_Posts t)) [] E0 (tCons (tCB (fun xs H_1 Q => rSorted xs (fun p ns => SqL K H_1 p (List.map V.int ns)) H_1 Q) (tCons (tVar 3) tNil)) (tCons (tCB (fun xs H_1 Q => rSorted xs (fun p ns => SqL K H_1 p (List.map V.int ns)) H_1 Q) (tCons (tVar 4) tNil)) tNil))); let B4 : TS := tSeq (tFor (iList K (tSortOut K 2 1 (tCB (fun xs H Q => ∃ n, xs = [V.int n] ∧ ∀ (l : Addr), H l = none → Q (V.ref l) (upd H l (HO.rng 0 n))) (tCons (tCB (fun xs H_1 Q => ∃ p ys, xs = [V.ref p] ∧ (SqL K H_1 p ys ∨ SqT K H_1 p ys) ∧ Q (V.int ↑(List.length ys)) H_1) (tCons (tVar 2) tNil)) tNil)) (tLam (Adr.P_paired t) { line := 111, col := 44, endLine := 111, endCol := 94 } qualP { posonlyargs := [], args := [{ arg := Str.ofString "place", annotation := none, pos := { line := 111, col := 51, endLine := 111, endCol := 56 } }], vararg := none, kwonlyargs := [], kw_defaults := [], kwarg := none, defaults := [] } (Expr.UnaryOp UnaryOp.USub (Expr.Call (Expr.Name (Str.ofString "outer_length") { line := 111, col := 59, endLine := 111, endCol := 71 }) [Expr.Subscript (Expr.Name (Str.ofString "roads") { line := 111, col := 72, endLine := 111, endCol := 77 }) (Expr.Name (Str.ofString "place") { line := 111, col := 78, endLine := 111, endCol := 83 }) { line := 111, col := 72, endLine := 111, endCol := 84 }, Expr.Name (Str.ofString "lengths") { line := 111, col := 86, endLine := 111, endCol := 93 }] [] { line := 111, col := 59, endLine := 111, endCol := 94 }) { line := 111, col := 58, endLine := 111, endCol := 94 }) { kind := ScopeKind.function, names := [(Str.ofString "place", NameKind.local), (Str.ofString "lengths", NameKind.free), (Str.ofString "roads", NameKind.free), (Str.ofString "outer_length", NameKind.globalImplicit)], isGenerator := false, isCoroutine := false } [(Str.ofString "roads", Array.size (Heap.objs (Shared.heap sh)) + 1 + 1), (Str.ofString "lengths", Array.size (Heap.objs (Shared.heap sh)) + 1)]) qualP { posonlyargs := [], args := [{ arg := Str.ofString "place", annotation := none, pos := { line := 111, col := 51, endLine := 111, endCol := 56 } }], vararg := none, kwonlyargs := [], kw_defaults := [], kwarg := none, defaults := [] } (Expr.UnaryOp UnaryOp.USub (Expr.Call (Expr.Name (Str.ofString "outer_length") { line := 111, col := 59, endLine := 111, endCol := 71 }) [Expr.Subscript (Expr.Name (Str.ofString "roads") { line := 111, col := 72, endLine := 111, endCol := 77 }) (Expr.Name (Str.ofString "place") { line := 111, col := 78, endLine := 111, endCol := 83 }) { line := 111, col := 72, endLine := 111, endCol := 84 }, Expr.Name (Str.ofString "lengths") { line := 111, col := 86, endLine := 111, endCol := 93 }] [] { line := 111, col := 59, endLine := 111, endCol := 94 }) { line := 111, col := 58, endLine := 111, endCol := 94 }) { kind := ScopeKind.function, names := [(Str.ofString "place", NameKind.local), (Str.ofString "lengths", NameKind.free), (Str.ofString "roads", NameKind.free), (Str.ofString "outer_length", NameKind.globalImplicit)], isGenerator := false, isCoroutine := false } [(Str.ofString "roads", Array.size (Heap.objs (Shared.heap sh)) + 1 + 1), (Str.ofString "lengths", Array.size (Heap.objs (Shared.heap sh)) + 1)])) (gName 5) (tIfS (tB (tCall sp_none_meet [] E0 (tCons (tComp (List.length [Str.ofString "number", Str.ofString "roads"]) [(1, 2)] (iList K (tOp rCat (tVar 3) (tLst (tCons (tVar 5) tNil)))) (gName 0) tNoIf (tOp (rIxL K) (tVar 1) (tVar 0))) tNil))) (tSeq (tDrop (tBM K "list" rAppend (tVar 3) (tCons (tVar 5) tNil))) (tDrop (tBM K "list" rAppend (tVar 4) (tCons (tCall sp_inner_end [] E0 (tCons (tOp (rIxL K) (tVar 2) (tVar 5)) (tCons (tVar 1) tNil))) tNil)))) tNext)) B5; let B3 : TS := tSeq (tAsg (tLst tNil) (gName 4)) B4; let B2 : TS := tSeq (tAsg (tLst tNil) (gName 3)) B3; let B1 : TS := tSeq (tAsg (tMeth (Adr.C_Tree t) (Str.ofString "roads") (sp_Tree_roads (Adr.C_Tree t)) [] E0 (tVar 0) tNil) (gName 2)) B2; tSeq (tAsg (tCall (sp_distances_from (Adr.C_Tree t)) [] E0 (tCons (tVar 0) (tCons (tC (V.int 0)) tNil))) (gName 1)) B1 _ _ _
    intro B5 B4 B3 B2 B1
    have n1 := T.ok.1
    have n2 := T.ok.2.1
    have W := T.ok.2.2
    have hN : ((n.toNat : Nat) : Int) = n := Int.toNat_of_nonneg (by omega)
    have hcnt := W.count
    -- lengths, roads
    refine ⟨_, rfl, x, q, n, rs, 0, rfl, T, ⟨by omega, by omega⟩, fun le H1 hle s1 hl1 => ?_⟩
    have hx := T.ob.choose_spec
    refine ⟨_, rfl, x, _, _, rfl, s1 _ _ hx, flds_noroads _ _, x, q, n, rs, rfl, T.keep s1, fun rq H2 hrq s2 hR => ?_⟩
    have hl2 := s2 _ _ hl1
    obtain ⟨xs, hr2, hxs⟩ := hR
    obtain ⟨as, rfl, hpd⟩ := roads_as hxs
    have hal : as.length = rs.length := Paired.length hpd
    have k2 := KL.of L (s1.trans s2)
    -- pairs = [], posts = []
    refine ⟨by show 0 ≤ sizeLine; decide, fun pl hpl => ?_⟩
    refine ⟨by show 0 ≤ sizeLine; decide, fun po hpo => ?_⟩
    have pn : po ≠ pl := fun z => by subst z; rw [upd_same] at hpo; cases hpo
    have hpo0 : H2 po = none := by rw [upd_ne pn] at hpo; exact hpo
    have s3 : Same H2 (upd (upd H2 pl (.lst [])) po (.lst [])) := (same_new hpl).trans (same_new hpo)
    have p3 : upd (upd H2 pl (.lst [])) po (.lst []) pl = some (.lst (([] : List Int).map V.int)) := by rw [upd_ne pn.symm, upd_same]; rfl
    have q3 : upd (upd H2 pl (.lst [])) po (.lst []) po = some (.lst (([] : List Int).map V.int)) := upd_same
    generalize upd (upd H2 pl (.lst [])) po (.lst []) = H3 at s3 p3 q3 ⊢
    have k3 := KL.of k2.lam' s3
    -- sorted(range(len(roads)), key=..)
    refine ⟨_, rfl, rq, _, rfl, .inl (SqL.of (s3 _ _ hr2)), _, rfl, fun ra hra => ?_⟩
    have s4 : Same H3 (upd H3 ra (.rng 0 ((as.map V.ref).length : Int))) := same_new hra
    have hr4 : upd H3 ra (.rng 0 ((as.map V.ref).length : Int)) ra = some (.rng 0 (rs.length : Nat)) := by rw [upd_same, List.length_map, hal]
    generalize upd H3 ra (.rng 0 ((as.map V.ref).length : Int)) = H4 at s4 hr4 ⊢
    have k4 := k3.same s4
    refine ⟨k4.lam'.pr, fun H5 f c kt l5 f0 hf hc => ?_⟩
    have k5' := KL.grew k4.lam' kt l5
    have k5 := k4.trans k5'
    have hends : ∀ r ∈ rs, (0 ≤ r.1 ∧ r.1 < (rowM n.toNat rs 0).length) ∧ (0 ≤ r.2.1 ∧ r.2.1 < (rowM n.toNat rs 0).length) := fun r hr => by
      have a := W.roads.lo r hr
      have b := W.roads.hi r hr
      rw [rowM_length]
      exact ⟨⟨a.1, b.1⟩, a.2, b.2⟩
    refine ⟨_, _, rfl, rfl, ra, f, c, rq, le, rs.length, rowM n.toNat rs 0, as, rs, rfl, rfl, hf, hc, rfl, rfl, k5'.get hr4 (fun _ z => by cases z), by omega, SqL.of (k5.l hr2), Paired.mapP hpd fun _ _ z => k5.tu z, SqL.of (k5.l hl2), rfl, hends, fun D ms hD hperm hord => ?_⟩
    have hp5 := k5'.l (s4 _ _ p3)
    have hq5 := k5'.l (s4 _ _ q3)
    have Dp : D ≠ pl := (ne_of_none hp5 hD).symm
    have Dq : D ≠ po := (ne_of_none hq5 hD).symm
    have k6 := k5.same (same_new (o := .lst (ms.map V.int)) hD)
    have mlen : ms.length = rs.length := by rw [hperm.length_eq]; simp
    have msIn : ∀ v ∈ ms, ∃ u : Nat, u < rs.length ∧ v = u := fun v hv => by
      obtain ⟨u, hu, e⟩ := List.mem_map.mp (hperm.mem_iff.mp hv)
      exact ⟨u, List.mem_range.mp hu, e.symm⟩
    have msNd : ms.Nodup := hperm.nodup_iff.mpr (map_nodup_on List.nodup_range fun a _ b _ e => by omega)
    refine ⟨D, rfl, ⟨_, SqL.of upd_same⟩, for_list (K := K) (a := D) (xs := ms.map V.int) (fun i σ H6 => (∃ v5, σ = [some (.ref x), some (.ref le), some (.ref rq), some (.ref pl), some (.ref po), v5]) ∧ KL t H2 H6 ∧ H6 D = some (.lst (ms.map V.int)) ∧
        ∃ prs : List Int, H6 pl = some (.lst (prs.map V.int)) ∧ H6 po = some (.lst ((prs.map fun k => inM n.toNat rs (rs.getD k.toNat (0, 0, 0))).map V.int)) ∧ (∀ k ∈ prs, 0 ≤ k ∧ k < rs.length) ∧ prs.length ≤ i ∧ Paird n.toNat rs ((ms.take i).map Int.toNat) (prs.map Int.toNat))
      ⟨⟨_, rfl⟩, k6, upd_same, [], by rw [upd_ne Dp.symm]; exact hp5, by rw [upd_ne Dq.symm]; exact hq5, by simp, Nat.le_refl _, Paird.nil⟩ (fun i σ H6 _ ⟨_, _, e, _⟩ => SqL.of e) ?_ ?_⟩
    · rintro i z σ H6 hi ⟨⟨v5, rfl⟩, k6, hD6, prs, hp6, hq6, hin, hle6, dug⟩
      obtain ⟨v, hv, rfl⟩ := ints_get hi
      obtain ⟨u, hu, rfl⟩ := msIn v (List.mem_of_getElem? hv)
      have hiN : i < rs.length := by have := (List.getElem?_eq_some_iff.mp hv).1; omega
      have hru : rs[u]? = some (rs.getD u (0, 0, 0)) := by rw [List.getD_eq_getElem?_getD, List.getElem?_eq_getElem hu]; rfl
      obtain ⟨au, hau, htu⟩ := pr_get hpd hru
      have hall : ∀ j ∈ prs ++ [(u : Int)], 0 ≤ j ∧ j < rs.length := fun j hj => by
        rcases List.mem_append.mp hj with hj | hj
        · exact hin j hj
        · rw [List.mem_singleton.mp hj]; omega
      -- pairs + [at]
      refine ⟨_, rfl, _, rfl, by show 1 ≤ sizeLine; decide, fun on hon => ?_⟩
      refine ⟨pl, on, _, _, rfl, rfl, same_new hon _ _ hp6, upd_same, by rw [List.length_map, sizeLine_eq]; show prs.length + 1 ≤ _; omega, fun ca hca => ?_⟩
      have e7 : prs.map V.int ++ [V.int (u : Int)] = (prs ++ [(u : Int)]).map V.int := by rw [List.map_append]; rfl
      rw [e7]
      have s7 : Same H6 (upd (upd H6 on (.lst [V.int (u : Int)])) ca (.lst ((prs ++ [(u : Int)]).map V.int))) := (same_new hon).trans (same_new hca)
      have hc7 : upd (upd H6 on (.lst [V.int (u : Int)])) ca (.lst ((prs ++ [(u : Int)]).map V.int)) ca = some (.lst ((prs ++ [(u : Int)]).map V.int)) := upd_same
      generalize upd (upd H6 on (.lst [V.int (u : Int)])) ca (.lst ((prs ++ [(u : Int)]).map V.int)) = H7 at s7 hc7 ⊢
      have k7 := k6.same s7
      refine ⟨ca, rfl, ⟨_, SqL.of hc7⟩, fun acc hacc => comp_list (K := K) (xs := (prs ++ [(u : Int)]).map V.int) (fun j τ ys H8 => (∃ v, τ = [v, some (.ref rq)]) ∧ H8 acc = some (.lst ys) ∧ Same H7 H8 ∧ Reps H8 ys ((someR rs ((prs ++ [(u : Int)]).take j)).map roadD)) ⟨⟨_, rfl⟩, upd_same, same_new hacc, .nil⟩
        (fun j τ ys H8 _ ⟨_, h3, h4, _⟩ => ⟨SqL.of (h4 _ _ hc7), h3⟩) ?_ ?_⟩
      · rintro j z τ ys H8 R hj ⟨⟨o, rfl⟩, h3, h4, hys⟩ hR
        obtain ⟨kk, hk, rfl⟩ := ints_get hj
        obtain ⟨k0, k1⟩ := hall kk (List.mem_of_getElem? hk)
        have hrk : rs[kk.toNat]? = some (rs.getD kk.toNat (0, 0, 0)) := by rw [List.getD_eq_getElem?_getD, List.getElem?_eq_getElem (by omega)]; rfl
        obtain ⟨ad, had, hta⟩ := pr_get hpd hrk
        have ha4 := h4 _ _ (k7.tu hta)
        have hly := hys.length
        unfold someR at hly
        rw [List.length_map, List.length_map, List.length_take, List.length_append, List.length_singleton] at hly
        refine noifN ?_
        refine ⟨_, rfl, _, rfl, rq, _, _, .ref ad, rfl, rfl, SqL.of (h4 _ _ (k7.l hr2)), atI_int (j := kk.toNat) (by omega) (by rw [List.getElem?_map, had]; rfl), h3, by rw [sizeLine_eq]; omega, hR _ _ _ ⟨⟨_, rfl⟩, upd_same, same_upd h4 hacc, ?_⟩⟩
        have e : someR rs ((prs ++ [(u : Int)]).take (j + 1)) = someR rs ((prs ++ [(u : Int)]).take j) ++ [rs.getD kk.toNat (0, 0, 0)] := by
          unfold someR
          rw [take_map_next _ hk]
        rw [e, List.map_append]
        have fz : ∀ b ws, H8 b = some (.tup ws) → upd H8 acc (.lst (ys ++ [.ref ad])) b = some (.tup ws) := fun b ws z => by
          rw [upd_ne (ne_of z h3 (by intro q; cases q))]; exact z
        exact Reps.append (hys.froz fz (frozs_roads _)) (.cons (roadD_mk (fz _ _ ha4)) .nil)
      · rintro τ ys H8 ⟨⟨o, rfl⟩, h3, h4, hys⟩
        rw [List.length_map, List.take_length] at hys
        refine ⟨acc, someR rs (prs ++ [(u : Int)]), rfl, ⟨ys, h3, hys⟩, by unfold someR; rw [List.length_map, List.length_append]; simp; omega, fun H9 b9 s9 hb9 => ⟨b9, rfl, ?_⟩⟩
        rw [someR_ends] at hb9
        have s69 := s7.trans (h4.trans s9)
        have k9 := k6.same s69
        have hp9 := s69 _ _ hp6
        have hq9 := s69 _ _ hq6
        have turn := turn_of W (pre := ms.take i) (r := rs.getD u (0, 0, 0)) dug hin (fun j hj => by obtain ⟨w', _, rfl⟩ := msIn j (List.mem_of_mem_take hj); omega) hru (fun hm => ?_) fun j s hj hs => ?_
        · have tk : ms.take (i + 1) = ms.take i ++ [(u : Int)] := by rw [List.take_add_one, hv]; rfl
          cases b9 with
          | false =>
            refine iteF ⟨⟨_, rfl⟩, k9, s69 _ _ hD6, prs, hp9, hq9, hin, by omega, ?_⟩
            rw [tk]
            exact turn.2 fun z => absurd (hb9.mpr z) (by decide)
          | true =>
            refine iteT ?_
            refine ⟨_, rfl, .inl ⟨rfl, _, SqL.of hp9⟩, _, rfl, pl, _, _, rfl, rfl, hp9, by rw [List.length_map, sizeLine_eq]; omega, ?_⟩
            have hq10 : upd H9 pl (.lst (prs.map V.int ++ [V.int (u : Int)])) po = some (.lst ((prs.map fun k => inM n.toNat rs (rs.getD k.toNat (0, 0, 0))).map V.int)) := by rw [upd_ne pn]; exact hq9
            have k10 : KL t H2 (upd H9 pl (.lst (prs.map V.int ++ [V.int (u : Int)]))) := k9.put hpl hp9
            have en := hends _ (List.mem_of_getElem? hru)
            refine ⟨_, rfl, .inl ⟨rfl, _, SqL.of hq10⟩, _, rfl, _, rfl, rq, _, _, .ref au, rfl, rfl, SqL.of (k10.l hr2), atI_nat (j := u) (by rw [List.getElem?_map, hau]; rfl), _, rfl, au, le, rs.getD u (0, 0, 0), rowM n.toNat rs 0, rfl, k10.tu htu, k10.l hl2, en.1, en.2, po, _, _, rfl, rfl, hq10, by rw [List.length_map, List.length_map, sizeLine_eq]; omega, ?_⟩
            refine ⟨⟨_, rfl⟩, k10.put hpo0 hq10, ?_, prs ++ [(u : Int)], ?_, ?_, hall, by rw [List.length_append]; simp; omega, ?_⟩
            · rw [upd_ne Dq, upd_ne Dp]; exact s69 _ _ hD6
            · rw [upd_ne pn.symm, upd_same, List.map_append]; rfl
            · rw [upd_same, List.map_append, List.map_append, inR_eq W.roads hru]
              rfl
            · rw [tk]
              exact turn.1 (hb9.mp rfl)
        · obtain ⟨j, hj⟩ := List.mem_iff_getElem?.mp hm
          have hji : j < i := by
            have := (List.getElem?_eq_some_iff.mp hj).1
            rw [List.length_take] at this; omega
          rw [List.getElem?_take, if_pos hji] at hj
          have := nodup_at msNd hj hv
          omega
        · have o := pair_take hord hv _ hj
          have hv' : rs[((u : Int)).toNat]? = some (rs.getD u (0, 0, 0)) := by rw [Int.toNat_natCast]; exact hru
          have e1 : outK (rowM n.toNat rs 0) rs j = _ := outK_eq W.roads hs
          have e2 : outK (rowM n.toNat rs 0) rs (u : Int) = _ := outK_eq W.roads hv'
          rw [e1, e2] at o
          omega
    · rintro σ H6 ⟨⟨v5, rfl⟩, k6, hD6, prs, hp6, hq6, hin, hle6, dug⟩
      rw [List.length_map, mlen] at dug hle6
      rw [List.take_of_length_le (by omega)] at dug
      refine ⟨_, rfl, pl, prs, rfl, SqL.of hp6, by omega, fun l1 ms1 hl1 p1 o1 => ?_⟩
      have s7 : Same H6 (upd H6 l1 (.lst (ms1.map V.int))) := same_new hl1
      have g1 : upd H6 l1 (.lst (ms1.map V.int)) l1 = some (.lst (ms1.map V.int)) := upd_same
      generalize upd H6 l1 (.lst (ms1.map V.int)) = H7 at s7 g1
      refine ⟨_, rfl, po, _, rfl, SqL.of (s7 _ _ hq6), by rw [List.length_map]; omega, fun l2 ms2 hl2 p2 o2 => ?_⟩
      have s8 : Same H7 (upd H7 l2 (.lst (ms2.map V.int))) := same_new hl2
      have g2 : upd H7 l2 (.lst (ms2.map V.int)) l2 = some (.lst (ms2.map V.int)) := upd_same
      have g1' := s8 _ _ g1
      generalize upd H7 l2 (.lst (ms2.map V.int)) = H8 at s8 g2 g1'
      intro x' dx' hx' hdx hne
      have s9 : Same H8 (upd (upd H8 dx' (.own x')) x' (.ins t.C_Posts dx' [])) := (same_new hdx).trans (same_new (by rw [upd_ne hne.symm]; exact hx'))
      have gx : upd (upd H8 dx' (.own x')) x' (.ins t.C_Posts dx' []) x' = some (.ins t.C_Posts dx' []) := upd_same
      generalize upd (upd H8 dx' (.own x')) x' (.ins t.C_Posts dx' []) = H9 at s9 gx
      have kk := k2.trans (((k6.same s7).same s8).same s9)
      refine ⟨x', dx', l1, l2, ms1, ms2, rfl, gx, s9 _ _ g1', s9 _ _ g2, fun p' q' H' hp' hq' hpq hW kp => ⟨rfl, ?_⟩⟩
      have hx0 : H x' = none := k2.free (k6.free (s7.free (s8.free hx')))
      refine k x' p' q' ms1 ms2 H' hx0 (kk.free hp') (kk.free hq') hpq ⟨fun b o e h1 => kp b o (kk.keep b o e h1) (ne_of_none e hx0), L, ⟨?_⟩⟩ hW o1 o2 ⟨ms, prs, fun u hu => ?_, hin, dug, p1, p2⟩
      · obtain ⟨ts, z1, z2, z3⟩ := kk.lam'.pr
        refine ⟨ts, kp _ _ z1 (fun y => by rw [y, gx] at z1; cases z1), z2, ?_⟩
        rcases z3 with z3 | ⟨c', z3, z4⟩
        · exact .inl z3
        · exact .inr ⟨c', z3, kp _ _ z4 (fun y => by rw [y, gx] at z4; cases z4)⟩
      · exact hperm.mem_iff.mpr (List.mem_map.mpr ⟨u, List.mem_range.mpr hu, rfl⟩)
end
end WR
namespace WR
open PySem L2
def sp_law_shown : Sp := fun vs H Q _ => ∃ (a q p r : Addr) (n : Int) (rs : List Road) (ks ps : List Int) (m : Int), vs = [.ref a, .ref p, .ref r, .int m] ∧ H a = some (.tup [.int n, .ref q]) ∧ RoadsAt H q rs ∧ rs.length ≤ 400 ∧ H p = some (.lst (ks.map V.int)) ∧ H r = some (.lst (ps.map V.int)) ∧ (∀ k ∈ ks, 0 ≤ k ∧ k < rs.length) ∧ ks.length ≤ 100 ∧
  ∀ H', Same H H' → Q (.bl (postedM rs ks ps m)) H'
theorem posted_no {rs : List Road} {ks ps : List Int} {m : Int} (h : ¬ (m = ks.length ∧ m = ps.length ∧ (endsM rs ks).Nodup)) : postedM rs ks ps m = false := by
  cases e : postedM rs ks ps m with
  | false => rfl
  | true => exact absurd ⟨(posted_iff.mp e).1, (posted_iff.mp e).2.1, (posted_iff.mp e).2.2.1⟩ h
theorem endsL_next {rs : List Road} {ks : List Int} {i : Nat} {k : Int} {r : Road} (h : ks[i]? = some k) (hr : rs[k.toNat]? = some r) : endsL rs (ks.take (i + 1)) = endsL rs (ks.take i) ++ [r.1, r.2.1] := by
  unfold endsL
  rw [List.take_add_one, h, List.flatMap_append]
  congr 1
  show [(rs.getD k.toNat (0, 0, 0)).1, (rs.getD k.toNat (0, 0, 0)).2.1] ++ [] = _
  rw [List.append_nil, List.getD_eq_getElem?_getD, hr]
  rfl
theorem endsL_len (rs : List Road) : ∀ ks : List Int, (endsL rs ks).length = 2 * ks.length
  | [] => rfl
  | k :: r => by
    have := endsL_len rs r
    unfold endsL at *
    rw [List.flatMap_cons, List.length_append, this, List.length_cons]
    simp
    omega
section
variable {P : Program} {w : World} {K : PySem.W.Frag} {mg : Str → Option Value} {base : Heap} {t : Adr}
theorem ok__law_shown (TT : Txt K mg t) : FnOk P w K mg base CX0 1 t.f__law_shown t.d__law_shown ["_law_told_here", "_law_pairs", "_law_posts", "_law_many"] sp_law_shown := by
  refine TT.F__law_shown.ok sc__law_shown (fun vs H Q E h => ?_) (fun cdv A outer sh H vs Q E hr h => ?_)
  · obtain ⟨a, q, p, r, n, rs, ks, ps, m, rfl, _⟩ := h
    rfl
  · obtain ⟨a, q, p, r, n, rs, ks, ps, m, rfl, ha, hR, hl, hp, hq, hin, hk, k⟩ := h
    refine ⟨_, (pss_cons (ps_if (PW.pt (pw_or (pt_cmpR op_ne (pv 3) (pe_callB call_len_seq rfl TT.z_len WB.bt_len (pa_cons (pv 1) pa_nil)) (nomark _)) (pw_or1 (pt_cmpR op_ne (pv 3) (pe_callB call_len_seq rfl TT.z_len WB.bt_len (pa_cons (pv 2) pa_nil)) (nomark _))))) (pss_one (ps_ret pe_bl)) pss_nil) (pss_cons (ps_set (i := 4) sc__law_shown.nd rfl (Or.inl rfl) (pe_lst pa_nil)) (pss_cons (ps_for PassesOwn.never rfl (pi_list (pv 1)) (pg_name (i := 5) sc__law_shown.nd rfl (Or.inl rfl)) (pss_one (ps_expr (pe_bm PySem.F.plainAttrs_list PySem.F.slot_list_extend PySem.F.type_list_extend mt_extendT (pv 4) (pa_cons (pe_slice sl_tup (pe_ix ix_list (pe_ix ix_tup (pv 0) pe_int (fun _ _ => rfl)) (pv 5) (fun _ _ => rfl)) po_none (po_some pe_int)) pa_nil))))) (pss_cons (ps_if (pt_cmpR op_lt (pe_callB call_lenSet rfl TT.z_len WB.bt_len (pa_cons (pe_callTy (call_setL rfl) rfl TT.z_set WB.bt_set (pa_cons (pv 4) pa_nil)) pa_nil)) (pe_callB call_len_seq rfl TT.z_len WB.bt_len (pa_cons (pv 4) pa_nil)) (nomark _)) (pss_one (ps_ret pe_bl)) pss_nil) (pss_one (ps_ret (pe_callB (call_all rfl) rfl TT.z_all WB.bt_all (pa_cons (pe_comp rfl (N := ["_law_one", "_law_other", "_law_length", "_law_posts"]) (fr := [(3, 2)]) (compOk (N0 := ["_law_told_here", "_law_pairs", "_law_posts", "_law_many", "_law_ends", "_law_at"]) (N := ["_law_one", "_law_other", "_law_length", "_law_posts"]) (fr := [(3, 2)]) (sc0 := defScope s__law_shown) rfl ⟨rfl, rfl⟩ (by decide +kernel)) (pi_list (pe_ix ix_tup (pv 0) pe_int (fun _ _ => rfl))) (fun _ _ _ _ _ => ⟨(pg_tupK (K := K) (n := 3) rfl rfl (pgs_cons (pg_name (i := 0) (show (["_law_one", "_law_other", "_law_length", "_law_posts"] : List Str).Nodup by decide +kernel) rfl (Or.inl rfl)) (pgs_cons (pg_name (i := 1) (show (["_law_one", "_law_other", "_law_length", "_law_posts"] : List Str).Nodup by decide +kernel) rfl (Or.inl rfl)) (pgs_cons (pg_name (i := 2) (show (["_law_one", "_law_other", "_law_length", "_law_posts"] : List Str).Nodup by decide +kernel) rfl (Or.inl rfl)) pgs_nil))) rfl), pf_none, (pe_or (pe_cmpR (op_in_seqK (K := K) rfl) (pv 0) (pv 3) (by with_unfolding_all rfl)) (pe_one (pe_cmpR (op_in_seqK (K := K) rfl) (pv 1) (pv 3) (by with_unfolding_all rfl))))⟩)) pa_nil)))))))), ?_⟩
    show let B4 : TS := tRet (tCB (fun xs H_1 Q => ∃ p bs, xs = [V.ref p] ∧ SqL K H_1 p (List.map V.bl bs) ∧ Q (V.bl (List.all bs id)) H_1) (tCons (tComp (List.length [Str.ofString "_law_one", Str.ofString "_law_other", Str.ofString "_law_length", Str.ofString "_law_posts"]) [(3, 2)] (iList K (tOp (rIxT K) (tVar 0) (tC (V.int 1)))) (gTup K 3 (gCons (gName 0) (gCons (gName 1) (gCons (gName 2) gNil)))) tNoIf (tOrV (tOp (rIn K false) (tVar 0) (tVar 3)) (tOp (rIn K false) (tVar 1) (tVar 3)))) tNil)); let B3 : TS := tSeq (tIfS (tTest (tOp (rI0 fun i j => V.bl (decide (i < j))) (tCB (fun xs H Q => ∃ p S n, xs = [V.ref p] ∧ H p = some (HO.set S n) ∧ Q (V.int ↑n) H) (tCons (tCB (fun xs H_1 Q => ∃ p ns, xs = [V.ref p] ∧ SqL K H_1 p (List.map V.int ns) ∧ List.length ns < 1000 ∧ ∀ (l : Addr) (S : Int → Bool), H_1 l = none → Q (V.ref l) (upd H_1 l (HO.set S (List.length (PyProof.Rows.firstMet (fun i => List.getD ns i 0) (List.length ns)))))) (tCons (tVar 4) tNil)) tNil)) (tCB (fun xs H_1 Q => ∃ p ys, xs = [V.ref p] ∧ (SqL K H_1 p ys ∨ SqT K H_1 p ys) ∧ Q (V.int ↑(List.length ys)) H_1) (tCons (tVar 4) tNil)))) (tRet (tC (V.bl false))) tNext) B4; let B2 : TS := tSeq (tFor (iList K (tVar 1)) (gName 5) (tDrop (tBM K "list" rExtendT (tVar 4) (tCons (tSl (rSlT K) (tOp (rIxL K) (tOp (rIxT K) (tVar 0) (tC (V.int 1))) (tVar 5)) tNoPart (tPart (tC (V.int 2)))) tNil)))) B3; let B1 : TS := tSeq (tAsg (tLst tNil) (gName 4)) B2; tSeq (tIfS (tOr (tTest (tOp rNe (tVar 3) (tCB (fun xs H_1 Q => ∃ p ys, xs = [V.ref p] ∧ (SqL K H_1 p ys ∨ SqT K H_1 p ys) ∧ Q (V.int ↑(List.length ys)) H_1) (tCons (tVar 1) tNil)))) (tTest (tOp rNe (tVar 3) (tCB (fun xs H_1 Q => ∃ p ys, xs = [V.ref p] ∧ (SqL K H_1 p ys ∨ SqT K H_1 p ys) ∧ Q (V.int ↑(List.length ys)) H_1) (tCons (tVar 2) tNil))))) (tRet (tC (V.bl false))) tNext) B1 _ _ _
    intro B4 B3 B2 B1
    obtain ⟨xs, hr1, hxs⟩ := hR
    have hlx := hxs.length
    rw [List.length_map] at hlx
    refine ⟨_, rfl, _, rfl, p, _, rfl, .inl (SqL.of hp), rfl, _, rfl, ?_⟩
    rw [List.length_map]
    by_cases c1 : m = (ks.length : Int)
    rotate_left
    · refine ite_t (by simpa using c1) (iteT ?_)
      rw [posted_no (rs := rs) (ks := ks) (ps := ps) fun z => c1 z.1] at k
      exact k H (Same.refl H)
    refine ite_f (by rw [c1]; simp) ?_
    refine ⟨_, rfl, _, rfl, r, _, rfl, .inl (SqL.of hq), rfl, _, rfl, ?_⟩
    rw [List.length_map]
    by_cases c2 : m = (ps.length : Int)
    rotate_left
    · refine ite_t (by simpa using c2) ?_
      rw [posted_no (rs := rs) (ks := ks) (ps := ps) fun z => c2 z.2.1] at k
      exact k H (Same.refl H)
    refine ite_f (by rw [c2]; simp) ?_
    -- ends
    refine ⟨by show 0 ≤ sizeLine; decide, fun en hen => ?_⟩
    refine ⟨_, rfl, p, rfl, ⟨_, SqL.of (same_new hen _ _ hp)⟩, for_list (K := K) (a := p) (xs := ks.map V.int) (fun i σ H2 => (∃ v, σ = [some (.ref a), some (.ref p), some (.ref r), some (.int m), some (.ref en), v]) ∧ H2 en = some (.lst ((endsL rs (ks.take i)).map V.int)) ∧ Same H H2)
      ⟨⟨_, rfl⟩, upd_same, same_new hen⟩ (fun i σ H2 _ ⟨_, _, h4⟩ => SqL.of (h4 _ _ hp)) ?_ ?_⟩
    · rintro i z σ H2 hi ⟨⟨v, rfl⟩, h3, h4⟩
      obtain ⟨kk, hk2, rfl⟩ := ints_get hi
      obtain ⟨k0, k1⟩ := hin kk (List.mem_of_getElem? hk2)
      have hat : xs[kk.toNat]? = some (xs[kk.toNat]'(by omega)) := List.getElem?_eq_getElem (by omega)
      obtain ⟨⟨ra, rb, rc⟩, ad, hri, hxe, had⟩ := RoadsAt.get hr1 hxs hat
      refine ⟨_, rfl, .inl ⟨rfl, _, SqL.of h3⟩, _, rfl, a, _, 1, _, rfl, rfl, SqT.of (h4 _ _ ha), atI_nat (j := 1) rfl, _, rfl, q, _, _, .ref ad, rfl, rfl, SqL.of (h4 _ _ hr1), atI_int (j := kk.toNat) (by omega) (by rw [hat, hxe]), 2, rfl, ad, _, rfl, SqT.of (h4 _ _ had), (show ¬ (HT.sIx 3 0 none = 0 ∧ HT.sIx 3 3 (some 2) = 3) by decide), fun tp htp => ?_⟩
      have ht : upd H2 tp (.tup (cutV [V.int ra, V.int rb, V.int rc] none (some 2))) tp = some (.tup [.int ra, .int rb]) := upd_same
      refine ⟨en, tp, _, _, rfl, rfl, same_new htp _ _ h3, ht, ?_, ?_⟩
      · rw [List.length_map, endsL_len, List.length_take, sizeLine_eq]
        show _ + 2 < _
        omega
      · refine ⟨⟨_, rfl⟩, ?_, fun b o e => ?_⟩
        · rw [upd_same, endsL_next hk2 hri, List.map_append]; rfl
        · rw [upd_ne (ne_of_none e hen)]; exact same_new htp _ _ (h4 _ _ e)
    rintro σ H2 ⟨⟨v, rfl⟩, h3, s2⟩
    rw [List.length_map, List.take_length] at h3
    have hel : (endsL rs ks).length < 1000 := by rw [endsL_len]; omega
    have nd := (ends_perm rs ks).nodup_iff
    generalize endsL rs ks = es at h3 hel nd
    obtain ⟨le, iff⟩ := firstMet_set es
    refine ⟨_, rfl, en, es, rfl, SqL.of h3, hel, fun st S hst => ?_⟩
    have s3 := s2.trans (same_new (o := .set S (PyProof.Rows.firstMet (fun i => es.getD i 0) es.length).length) hst)
    refine ⟨st, S, _, rfl, upd_same, _, rfl, en, _, rfl, .inl (SqL.of (same_new hst _ _ h3)), _, _, rfl, rfl, _, rfl, ?_⟩
    rw [List.length_map]
    by_cases c3 : es.Nodup
    rotate_left
    · have : ¬ ((PyProof.Rows.firstMet (fun i => es.getD i 0) es.length).length : Int) = es.length := fun z => c3 (iff.mp (by omega))
      refine ite_t (decide_eq_true (show ((PyProof.Rows.firstMet (fun i => es.getD i 0) es.length).length : Int) < es.length by omega)) ?_
      rw [posted_no (rs := rs) (ks := ks) (ps := ps) fun z => c3 (nd.mpr z.2.2)] at k
      exact k _ s3
    refine ite_f (decide_eq_false (show ¬ ((PyProof.Rows.firstMet (fun i => es.getD i 0) es.length).length : Int) < es.length by have := iff.mpr c3; omega)) ?_
    refine ⟨_, rfl, a, _, 1, _, rfl, rfl, SqT.of (s3 _ _ ha), atI_nat (j := 1) rfl, q, rfl, ⟨_, SqL.of (s3 _ _ hr1)⟩, fun acc hacc => comp_list (K := K) (xs := xs) (fun i τ ys H4 => (∃ v0 v1 v2, τ = [v0, v1, v2, some (.ref r)]) ∧ ys = ((rs.take i).map fun r => decide (r.1 ∈ ps) || decide (r.2.1 ∈ ps)).map V.bl ∧ H4 acc = some (.lst ys) ∧ Same H H4) ⟨⟨_, _, _, rfl⟩, rfl, upd_same, s3.trans (same_new hacc)⟩
      (fun i τ ys H4 _ ⟨_, _, h5, h6⟩ => ⟨SqL.of (h6 _ _ hr1), h5⟩) ?_ ?_⟩
    · rintro i z τ ys H4 R hi ⟨⟨v0, v1, v2, rfl⟩, rfl, h5, h6⟩ hR
      obtain ⟨⟨ra, rb, rc⟩, ad, hri, rfl, had⟩ := RoadsAt.get hr1 hxs hi
      have hp2 := h6 _ _ hq
      have fin : ∀ b, b = (decide (ra ∈ ps) || decide (rb ∈ ps)) → H4 acc = some (.lst (((rs.take i).map fun r => decide (r.1 ∈ ps) || decide (r.2.1 ∈ ps)).map V.bl)) ∧ (((rs.take i).map fun r => decide (r.1 ∈ ps) || decide (r.2.1 ∈ ps)).map V.bl).length < sizeLine ∧
          R [some (.int ra), some (.int rb), some (.int rc), some (.ref r)] (((rs.take i).map fun r => decide (r.1 ∈ ps) || decide (r.2.1 ∈ ps)).map V.bl ++ [.bl b]) (upd H4 acc (.lst (((rs.take i).map fun r => decide (r.1 ∈ ps) || decide (r.2.1 ∈ ps)).map V.bl ++ [.bl b]))) := fun b hb => by
        refine ⟨h5, by simp only [List.length_map, List.length_take]; rw [sizeLine_eq]; omega, hR _ _ _ ⟨⟨_, _, _, rfl⟩, ?_, upd_same, fun b o e => ?_⟩⟩
        · rw [take_map_next _ hri, List.map_append, hb]
          rfl
        · rw [upd_ne (ne_of_none (s3 _ _ e) hacc)]; exact h6 _ _ e
      refine ⟨ad, _, rfl, SqT.of (h6 _ _ had), rfl, _, _, rfl, _, _, rfl, _, _, rfl, rfl, noif ?_⟩
      refine ⟨_, rfl, _, rfl, r, _, rfl, .inl (SqL.of hp2), rfl, flat_ints ps, _, rfl, ?_⟩
      rw [show (if false = true then !inV (V.int ra) (ps.map V.int) else inV (V.int ra) (ps.map V.int)) = decide (ra ∈ ps) by rw [inV_ints]; rfl]
      by_cases c : ra ∈ ps
      · refine ite_t (decide_eq_true c) ?_
        exact fin _ (by rw [decide_eq_true c]; rfl)
      · refine ite_f (decide_eq_false c) ?_
        refine ⟨_, rfl, _, rfl, r, _, rfl, .inl (SqL.of hp2), rfl, flat_ints ps, ?_⟩
        exact fin _ (by rw [decide_eq_false c, inV_ints]; rfl)
    · rintro τ ys H4 ⟨⟨v0, v1, v2, rfl⟩, rfl, h5, h6⟩
      rw [hlx, List.take_length] at h5
      refine ⟨acc, _, rfl, SqL.of h5, ?_⟩
      have : ((rs.map fun r => decide (r.1 ∈ ps) || decide (r.2.1 ∈ ps)).all id) = postedM rs ks ps m := bool_of_iff (by
        rw [posted_iff, List.all_eq_true]
        constructor
        · intro z
          refine ⟨c1, c2, nd.mp c3, fun r hr => ?_⟩
          simpa using z _ (List.mem_map.mpr ⟨r, hr, rfl⟩)
        · intro z b hb
          obtain ⟨r, hr, rfl⟩ := List.mem_map.mp hb
          simpa using z.2.2.2 r hr)
      rw [this]
      exact k H4 h6
end
end WR
namespace WR
open PySem L2
theorem pair_drop {R : Int → Int → Prop} {ms : List Int} {i : Nat} {v : Int} (h : ms.Pairwise R) (e : ms[i]? = some v) : ∀ c ∈ ms.drop (i + 1), R v c := by
  intro c hc
  have h' : (ms.drop i).Pairwise R := h.sublist (List.drop_sublist _ _)
  have hi : i < ms.length := (List.getElem?_eq_some_iff.mp e).1
  rw [List.drop_eq_getElem_cons hi, List.pairwise_cons] at h'
  have ev : ms[i] = v := (List.getElem?_eq_some_iff.mp e).2
  rw [ev] at h'
  exact h'.1 c hc
theorem depDs_ints (ns : List Int) : depDs (ns.map fun i => Dt.v (.int i)) ≤ 8 := by
  have : depDs (ns.map fun i => Dt.v (.int i)) = 0 := by
    induction ns with
    | nil => rfl
    | cons n r ih => rw [List.map_cons]; unfold depDs depD; rw [ih]; rfl
  omega
theorem erase_map (ys : List Int) (k : Nat) : (ys.map V.int).eraseIdx k = (ys.eraseIdx k).map V.int := by
  induction ys generalizing k with
  | nil => rfl
  | cons y r ih => cases k with
    | zero => rfl
    | succ k => rw [List.map_cons, List.eraseIdx_cons_succ, List.eraseIdx_cons_succ, List.map_cons, ih]
def sp_rising : Sp := fun vs H Q _ => ∃ (a : Addr) (ws : List Int) (m : Int), vs = [.ref a, .int m] ∧ H a = some (.lst (ws.map V.int)) ∧ ws.Pairwise (· < ·) ∧ (∀ x ∈ ws, 0 ≤ x ∧ x < m) ∧ Q (.bl true) H
def sp_bent : Sp := fun vs H Q _ => ∃ (a : Addr) (ws : List Int) (c n : Int), vs = [.ref a, .int c, .int n] ∧ H a = some (.lst (ws.map V.int)) ∧ ws.length ≤ 50 ∧ (∀ x ∈ ws, 0 ≤ x ∧ x < n) ∧ 0 ≤ n ∧ n ≤ 12 ∧
  ∀ p (ys : List Int) H', H p = none → Same H H' → H' p = some (.lst (ys.map V.int)) → ys.length ≤ 51 → (∀ y ∈ ys, 0 ≤ y ∧ y < n) → Q (.ref p) H'
def sp_says (t : Adr) : Sp := fun vs H Q _ => ∃ (x p q y yq : Addr) (ks ps : List Int) (n : Int) (rs : List Road) (m : Int) (due : Bool), vs = [.ref x, .ref y, .int m, .bl due] ∧ PostsAt t.C_Posts H x p q ks ps ∧ TreeAt t.C_Tree H y yq n rs ∧ (∀ k ∈ ks, 0 ≤ k ∧ k < rs.length) ∧ (∀ v ∈ ps, 0 ≤ v ∧ v < n) ∧ ks.length ≤ 100 ∧ ps.length ≤ 100 ∧ due = postedM rs ks ps m ∧
  ∀ H', Same H H' → Q (.bl true) H'
section
variable {P : Program} {w : World} {K : PySem.W.Frag} {mg : Str → Option Value} {base : Heap} {t : Adr}
theorem ok__law_rising (TT : Txt K mg t) : FnOk P w K mg base CX0 1 t.f__law_rising t.d__law_rising ["_law_some", "_law_many"] sp_rising := by
  refine TT.F__law_rising.ok sc__law_rising (fun vs H Q E h => ?_) (fun cdv A outer sh H vs Q E hr h => ?_)
  · obtain ⟨a, ws, m, rfl, _⟩ := h
    rfl
  · obtain ⟨a, ws, m, rfl, ha, hp, hin, k⟩ := h
    refine ⟨_, (pss_cons (ps_if (pt_not (pt_val (pe_callB call_isinst rfl TT.z_isinstance WB.bt_isinstance (pa_cons (pv 0) (pa_cons (pe_bltn (v := .ty "list") rfl TT.z_list WB.bt_list rfl) pa_nil))))) (pss_one (ps_ret pe_bl)) pss_nil) (pss_cons (ps_set (i := 2) sc__law_rising.nd rfl (Or.inl rfl) (pe_un un_neg pe_int)) (pss_cons (ps_for PassesOwn.never rfl (pi_list (pv 0)) (pg_name (i := 3) sc__law_rising.nd rfl (Or.inl rfl)) (pss_cons (ps_if (PW.pt (pw_or (pt_val (pe_callB call_isinst rfl TT.z_isinstance WB.bt_isinstance (pa_cons (pv 3) (pa_cons (pe_bltn (v := .ty "bool") rfl TT.z_bool WB.bt_bool rfl) pa_nil)))) (pw_or (pt_not (pt_val (pe_callB call_isinst rfl TT.z_isinstance WB.bt_isinstance (pa_cons (pv 3) (pa_cons (pe_bltn (v := .ty "int") rfl TT.z_int WB.bt_int rfl) pa_nil))))) (pw_or1 (pt_not (pt_chain op_lt op_lt (pv 2) (pv 3) (pv 1))))))) (pss_one (ps_ret pe_bl)) pss_nil) (pss_one (ps_set (i := 2) sc__law_rising.nd rfl (Or.inl rfl) (pv 3))))) (pss_one (ps_ret pe_bl))))), ?_⟩
    refine ⟨_, rfl, _, "list", .type "list", true, rfl, .lst ha, kit_ll, true, rfl, iteF ?_⟩
    refine ⟨_, rfl, ?_⟩
    refine ⟨_, rfl, a, rfl, ⟨_, SqL.of ha⟩, for_list (K := K) (a := a) (xs := ws.map V.int) (fun i σ H2 => (∃ last v3, σ = [some (.ref a), some (.int m), some (.int last), v3] ∧ ∀ x ∈ ws.drop i, last < x) ∧ H2 = H)
      ⟨⟨_, _, rfl, fun x hx => by have := hin x (List.mem_of_mem_drop hx); omega⟩, rfl⟩ (fun i σ H2 _ ⟨_, e⟩ => by rw [e]; exact SqL.of ha) ?_ ?_⟩
    · rintro i v σ H2 hi ⟨⟨last, v3, rfl, hlast⟩, rfl⟩
      obtain ⟨x, hx, rfl⟩ := ints_get hi
      have hb := hin x (List.mem_of_getElem? hx)
      have hl := hlast x (by rw [List.mem_iff_getElem?]; exact ⟨0, by rw [List.getElem?_drop]; simpa using hx⟩)
      refine ⟨_, rfl, _, "bool", .type "int", false, rfl, .int _, kit_ib, false, rfl, iteF ?_⟩
      refine ⟨_, rfl, _, "int", .type "int", true, rfl, .int _, kit_ii, true, rfl, iteF ?_⟩
      refine ⟨_, rfl, _, rfl, _, _, rfl, rfl, _, rfl, ite_t (by simpa using hl) ⟨_, rfl, _, _, rfl, rfl, _, rfl, ite_f (by simpa using hb.2) ?_⟩⟩
      exact ⟨_, rfl, ⟨_, _, rfl, pair_drop hp hx⟩, rfl⟩
    · rintro σ H2 ⟨⟨last, v3, rfl, _⟩, rfl⟩
      exact k
theorem ok__law_bent (TT : Txt K mg t) : FnOk P w K mg base CX0 1 t.f__law_bent t.d__law_bent ["_law_some", "_law_cell", "_law_many"] sp_bent := by
  refine TT.F__law_bent.ok sc__law_bent (fun vs H Q E h => ?_) (fun cdv A outer sh H vs Q E hr h => ?_)
  · obtain ⟨a, ws, c, n, rfl, _⟩ := h
    rfl
  · obtain ⟨a, ws, c, n, rfl, ha, hl, hin, n1, n12, k⟩ := h
    have hu9 := hu9_of hr
    have modR : ∀ (z : Int) (m : Nat), 0 < m → ∃ j : Nat, j < m ∧ z % (m : Int) = j := fun z m hm => by
      have a1 := Int.emod_nonneg z (show (m : Int) ≠ 0 by omega)
      have a2 := Int.emod_lt_of_pos z (show (0 : Int) < m by omega)
      obtain ⟨j, hj⟩ := Int.eq_ofNat_of_zero_le a1
      exact ⟨j, by omega, hj⟩
    have newR : ∀ z : Int, 0 < n → 0 ≤ z % n ∧ z % n < n := fun z hn => ⟨Int.emod_nonneg _ (by omega), Int.emod_lt_of_pos _ hn⟩
    refine ⟨_, (pss_cons (ps_set (i := 3) sc__law_bent.nd rfl (Or.inl rfl) (pe_callTy call_list_of rfl TT.z_list WB.bt_list (pa_cons (pv 0) pa_nil))) (pss_cons (ps_join (ps_if (PW.pt (pw_and (pt_cmpR op_eq (pe_op op_mod (pv 1) pe_int) pe_int (nomark _)) (pw_and1 (pt_cmpR op_gt (pv 2) pe_int (nomark _))))) (pss_one (ps_expr (pe_bm PySem.F.plainAttrs_list PySem.F.slot_list_append PySem.F.type_list_append mt_append (pv 3) (pa_consB (pe_op op_mod (pe_op op_fdiv (pv 1) pe_int) (pv 2)) pa_nil)))) pss_nil) (fun σ H => ∃ (mk : Addr) (ys : List Int), σ = [some (.ref a), some (.int c), some (.int n), some (.ref mk)] ∧ H mk = some (.lst (ys.map V.int)) ∧ ys.length ≤ ws.length ∧ ∀ y ∈ ys, 0 ≤ y ∧ y < n) (fun σ H σ' H' => σ' = σ ∧ ∃ (mk : Addr) (ys : List Int), σ = [some (.ref a), some (.int c), some (.int n), some (.ref mk)] ∧ H' mk = some (.lst (ys.map V.int)) ∧ ys.length ≤ ws.length + 1 ∧ (∀ y ∈ ys, 0 ≤ y ∧ y < n) ∧ ∀ b o, b ≠ mk → H b = some o → H' b = some o) ?j0) (pss_cons (ps_join (ps_if (PW.pt (pw_and (pt_cmpR op_eq (pe_op op_mod (pv 1) pe_int) pe_int (nomark _)) (pw_and1 (pt_cmpR (op_neL (k := 8) hu9) (pv 3) (pe_lst pa_nil) (nomark _))))) (pss_one (ps_expr (pe_bm PySem.F.plainAttrs_list PySem.F.slot_list_pop PySem.F.type_list_pop mt_popAt (pv 3) (pa_consB (pe_op op_mod (pe_op op_fdiv (pv 1) pe_int) (pe_callB call_len_seq rfl TT.z_len WB.bt_len (pa_cons (pv 3) pa_nil))) pa_nil)))) pss_nil) (fun σ H => ∃ (mk : Addr) (ys : List Int), σ = [some (.ref a), some (.int c), some (.int n), some (.ref mk)] ∧ H mk = some (.lst (ys.map V.int)) ∧ ys.length ≤ ws.length + 1 ∧ ∀ y ∈ ys, 0 ≤ y ∧ y < n) (fun σ H σ' H' => σ' = σ ∧ ∃ (mk : Addr) (ys : List Int), σ = [some (.ref a), some (.int c), some (.int n), some (.ref mk)] ∧ H' mk = some (.lst (ys.map V.int)) ∧ ys.length ≤ ws.length + 1 ∧ (∀ y ∈ ys, 0 ≤ y ∧ y < n) ∧ ∀ b o, b ≠ mk → H b = some o → H' b = some o) ?j1) (pss_cons (ps_join (ps_if (PW.pt (pw_and (pt_cmpR op_eq (pe_op op_mod (pv 1) pe_int) pe_int (nomark _)) (pw_and1 (pt_cmpR (op_neL (k := 8) hu9) (pv 3) (pe_lst pa_nil) (nomark _))))) (pss_one (ps_asg (pe_op op_mod (pe_op op_fdiv (pv 1) pe_int) (pv 2)) (pg_sub (pv 3) (pe_op op_mod (pe_op op_fdiv (pv 1) pe_int) (pe_callB call_len_seq rfl TT.z_len WB.bt_len (pa_cons (pv 3) pa_nil))) set_list))) pss_nil) (fun σ H => ∃ (mk : Addr) (ys : List Int), σ = [some (.ref a), some (.int c), some (.int n), some (.ref mk)] ∧ H mk = some (.lst (ys.map V.int)) ∧ ys.length ≤ ws.length + 1 ∧ ∀ y ∈ ys, 0 ≤ y ∧ y < n) (fun σ H σ' H' => σ' = σ ∧ ∃ (mk : Addr) (ys : List Int), σ = [some (.ref a), some (.int c), some (.int n), some (.ref mk)] ∧ H' mk = some (.lst (ys.map V.int)) ∧ ys.length ≤ ws.length + 1 ∧ (∀ y ∈ ys, 0 ≤ y ∧ y < n) ∧ ∀ b o, b ≠ mk → H b = some o → H' b = some o) ?j2) (pss_one (ps_ret (pe_revX (pv 3)))))))), ?_⟩
    case j0 =>
      rintro σ H ⟨mk, ys, rfl, hm, hy, hys⟩
      refine ⟨_, rfl, _, _, rfl, rfl, (by show (0 : Int) < 4; decide), rfl, _, rfl, ite2 (fun _ => ?_) (fun _ => ?_)⟩
      · refine ⟨_, rfl, _, _, rfl, rfl, _, rfl, ite2 (fun hn => ?_) (fun _ => ⟨rfl, mk, ys, rfl, hm, by omega, hys, fun b o _ e => e⟩)⟩
        have hn : 0 < n := by simpa using hn
        refine ⟨_, rfl, .inl ⟨rfl, _, SqL.of hm⟩, _, rfl, _, _, rfl, rfl, ⟨by decide, by decide⟩, _, rfl, _, _, rfl, rfl, hn, mk, _, _, rfl, rfl, hm, by rw [List.length_map, sizeLine_eq]; omega, rfl, mk, ys ++ [c / 4 % n], rfl, by rw [upd_same, List.map_append]; rfl, by simp; omega, fun y z => ?_, fun b o hb e => by rw [upd_ne hb]; exact e⟩
        rcases List.mem_append.mp z with z | z
        · exact hys y z
        · rw [List.mem_singleton.mp z]; exact newR _ hn
      · exact iteF ⟨rfl, mk, ys, rfl, hm, by omega, hys, fun b o _ e => e⟩
    case j1 =>
      rintro σ H ⟨mk, ys, rfl, hm, hy, hys⟩
      refine ⟨_, rfl, _, _, rfl, rfl, (by show (0 : Int) < 4; decide), rfl, _, rfl, ite2 (fun _ => ?_) (fun _ => ?_)⟩
      · refine ⟨_, rfl, by show 0 ≤ sizeLine; decide, fun em hem => ?_⟩
        have s1 : Same H (upd H em (.lst [])) := same_new hem
        have he : upd H em (.lst []) em = some (.lst (([] : List Int).map V.int)) := upd_same
        generalize upd H em (.lst []) = H1 at s1 he ⊢
        refine ⟨mk, em, _, _, _, _, rfl, rfl, .inl ⟨s1 _ _ hm, he⟩, reps_ints ys, reps_ints [], depDs_ints ys, _, rfl, ?_⟩
        cases ys with
        | nil => exact iteF ⟨rfl, mk, [], rfl, s1 _ _ hm, hy, hys, fun b o _ e => s1 _ _ e⟩
        | cons y0 yr =>
          refine iteT ?_
          obtain ⟨j, hj, ej⟩ := modR (c / 4) ((y0 :: yr).map V.int).length (by simp)
          rw [List.length_map] at hj
          have hlen : (y0 :: yr).length ≤ 51 := by omega
          refine ⟨_, rfl, .inl ⟨rfl, _, SqL.of (s1 _ _ hm)⟩, _, rfl, _, _, rfl, rfl, ⟨by decide, by decide⟩, _, rfl, mk, _, rfl, .inl (SqL.of (s1 _ _ hm)), _, _, rfl, rfl, (by show (0 : Int) < _; rw [List.length_map]; simp), mk, _, _, j, .int ((y0 :: yr).getD j 0), rfl, rfl, s1 _ _ hm, ?_, ?_, ?_, ints_at (at_getD hj), rfl, mk, (y0 :: yr).eraseIdx j, rfl, ?_, ?_, fun y z => hys y (List.mem_of_mem_eraseIdx z), fun b o hb e => by rw [upd_ne hb]; exact s1 _ _ e⟩
          · show _ ≤ c / 4 % ((List.map V.int (y0 :: yr)).length : Int)
            rw [ej]; omega
          · show c / 4 % ((List.map V.int (y0 :: yr)).length : Int) < _
            rw [ej]; omega
          · show seqIndex? (c / 4 % ((List.map V.int (y0 :: yr)).length : Int)) _ = _
            rw [ej]
            have := PySem.StrLaws.seqIndex_nonneg (i := (j : Int)) (n := (List.map V.int (y0 :: yr)).length) (by omega) (by rw [List.length_map]; omega)
            simpa using this
          · rw [upd_same, erase_map]
          · have := List.length_eraseIdx_le (y0 :: yr) j
            omega
      · exact iteF ⟨rfl, mk, ys, rfl, hm, hy, hys, fun b o _ e => e⟩
    case j2 =>
      rintro σ H ⟨mk, ys, rfl, hm, hy, hys⟩
      refine ⟨_, rfl, _, _, rfl, rfl, (by show (0 : Int) < 4; decide), rfl, _, rfl, ite2 (fun _ => ?_) (fun _ => ?_)⟩
      · refine ⟨_, rfl, by show 0 ≤ sizeLine; decide, fun em hem => ?_⟩
        have s1 : Same H (upd H em (.lst [])) := same_new hem
        have he : upd H em (.lst []) em = some (.lst (([] : List Int).map V.int)) := upd_same
        generalize upd H em (.lst []) = H1 at s1 he ⊢
        refine ⟨mk, em, _, _, _, _, rfl, rfl, .inl ⟨s1 _ _ hm, he⟩, reps_ints ys, reps_ints [], depDs_ints ys, _, rfl, ?_⟩
        cases ys with
        | nil => exact iteF ⟨rfl, mk, [], rfl, s1 _ _ hm, hy, hys, fun b o _ e => s1 _ _ e⟩
        | cons y0 yr =>
          refine iteT ?_
          have hn : 0 < n := by have := hys y0 (List.mem_cons_self ..); omega
          obtain ⟨j, hj, ej⟩ := modR (c / 4) ((y0 :: yr).map V.int).length (by simp)
          rw [List.length_map] at hj
          refine ⟨_, rfl, _, _, rfl, rfl, ⟨by decide, by decide⟩, _, rfl, _, _, rfl, rfl, hn, _, rfl, _, rfl, _, _, rfl, rfl, ⟨by decide, by decide⟩, _, rfl, mk, _, rfl, .inl (SqL.of (s1 _ _ hm)), _, _, rfl, rfl, (by show (0 : Int) < _; rw [List.length_map]; simp), mk, _, _, j, rfl, rfl, s1 _ _ hm, ?_, rfl, mk, (y0 :: yr).set j (c / 16 % n), rfl, ?_, ?_, fun y z => ?_, fun b o hb e => by rw [upd_ne hb]; exact s1 _ _ e⟩
          · show ixN _ (c / 4 % ((List.map V.int (y0 :: yr)).length : Int)) = _
            rw [ej]
            unfold ixN
            rw [List.length_map, if_pos (by omega), if_pos (by omega)]
            simp
          · rw [upd_same, List.map_set]
          · rw [List.length_set]; exact hy
          · rcases List.mem_or_eq_of_mem_set z with z | rfl
            · exact hys y z
            · exact newR _ hn
      · exact iteF ⟨rfl, mk, ys, rfl, hm, hy, hys, fun b o _ e => e⟩
    show let B4 : TS := tRet (tRevX K (tVar 3)); let B3 : TS := tSeq (fun D σ H => (∃ mk ys, σ = [some (V.ref a), some (V.int c), some (V.int n), some (V.ref mk)] ∧ H mk = some (HO.lst (List.map V.int ys)) ∧ List.length ys ≤ List.length ws + 1 ∧ ∀ (y : Int), y ∈ ys → 0 ≤ y ∧ y < n) ∧ ∀ (σ' : St) (H' : Hp), (σ' = σ ∧ ∃ mk ys, σ = [some (V.ref a), some (V.int c), some (V.int n), some (V.ref mk)] ∧ H' mk = some (HO.lst (List.map V.int ys)) ∧ List.length ys ≤ List.length ws + 1 ∧ (∀ (y : Int), y ∈ ys → 0 ≤ y ∧ y < n) ∧ ∀ (b : Addr) (o : HO), b ≠ mk → H b = some o → H' b = some o) → Ends.nx D σ' H') B4; let B2 : TS := tSeq (fun D σ H => (∃ mk ys, σ = [some (V.ref a), some (V.int c), some (V.int n), some (V.ref mk)] ∧ H mk = some (HO.lst (List.map V.int ys)) ∧ List.length ys ≤ List.length ws + 1 ∧ ∀ (y : Int), y ∈ ys → 0 ≤ y ∧ y < n) ∧ ∀ (σ' : St) (H' : Hp), (σ' = σ ∧ ∃ mk ys, σ = [some (V.ref a), some (V.int c), some (V.int n), some (V.ref mk)] ∧ H' mk = some (HO.lst (List.map V.int ys)) ∧ List.length ys ≤ List.length ws + 1 ∧ (∀ (y : Int), y ∈ ys → 0 ≤ y ∧ y < n) ∧ ∀ (b : Addr) (o : HO), b ≠ mk → H b = some o → H' b = some o) → Ends.nx D σ' H') B3; let B1 : TS := tSeq (fun D σ H => (∃ mk ys, σ = [some (V.ref a), some (V.int c), some (V.int n), some (V.ref mk)] ∧ H mk = some (HO.lst (List.map V.int ys)) ∧ List.length ys ≤ List.length ws ∧ ∀ (y : Int), y ∈ ys → 0 ≤ y ∧ y < n) ∧ ∀ (σ' : St) (H' : Hp), (σ' = σ ∧ ∃ mk ys, σ = [some (V.ref a), some (V.int c), some (V.int n), some (V.ref mk)] ∧ H' mk = some (HO.lst (List.map V.int ys)) ∧ List.length ys ≤ List.length ws + 1 ∧ (∀ (y : Int), y ∈ ys → 0 ≤ y ∧ y < n) ∧ ∀ (b : Addr) (o : HO), b ≠ mk → H b = some o → H' b = some o) → Ends.nx D σ' H') B2; tSeq (tAsg (tCB (fun xs H_1 Q => ∃ p ys, xs = [V.ref p] ∧ (SqL K H_1 p ys ∨ SqT K H_1 p ys) ∧ ∀ (l : Addr), H_1 l = none → Q (V.ref l) (upd H_1 l (HO.lst ys))) (tCons (tVar 0) tNil)) (gName 3)) B1 _ _ _
    intro B4 B3 B2 B1
    refine ⟨_, rfl, a, _, rfl, .inl (SqL.of ha), fun mk hmk => ?_⟩
    have s1 : Same H (upd H mk (.lst (ws.map V.int))) := same_new hmk
    have h1 : upd H mk (.lst (ws.map V.int)) mk = some (.lst (ws.map V.int)) := upd_same
    generalize upd H mk (.lst (ws.map V.int)) = H1 at s1 h1 ⊢
    refine ⟨⟨mk, ws, rfl, h1, Nat.le_refl _, hin⟩, fun σ' H2 ⟨e1, mk2, y2, e2, h2, l2, i2, k2⟩ => ?_⟩
    subst e1
    cases e2
    refine ⟨⟨mk, y2, rfl, h2, l2, i2⟩, fun σ' H3 ⟨e1, mk3, y3, e3, h3, l3, i3, k3⟩ => ?_⟩
    subst e1
    cases e3
    refine ⟨⟨mk, y3, rfl, h3, l3, i3⟩, fun σ' H4 ⟨e1, mk4, y4, e4, h4, l4, i4, k4⟩ => ?_⟩
    subst e1
    cases e4
    have s4 : Same H H4 := fun b o e => by
      have nb : b ≠ mk := ne_of_none e hmk
      exact k4 _ _ nb (k3 _ _ nb (k2 _ _ nb (s1 _ _ e)))
    refine ⟨_, rfl, mk, _, rfl, SqL.of h4, fun p hp => ?_⟩
    exact k p y4.reverse _ (s4.free hp) (s4.trans (same_new hp)) (by rw [upd_same, List.map_reverse]) (by rw [List.length_reverse]; omega) fun y z => i4 y (List.mem_reverse.mp z)
theorem ok__law_says (TT : Txt K mg t) : FnOk P w K mg base CX0 6 t.f__law_says t.d__law_says ["_law_answer", "_law_tree", "_law_many", "_law_due"] (sp_says t) := by
  refine TT.F__law_says.ok sc__law_says (fun vs H Q E h => ?_) (fun cdv A outer sh H vs Q E hr h => ?_)
  · obtain ⟨x, p, q, y, yq, ks, ps, n, rs, m, due, rfl, _⟩ := h
    rfl
  · obtain ⟨x, p, q, y, yq, ks, ps, n, rs, m, due, rfl, Wl, T, i1, i2, l1, l2, e, k⟩ := h
    refine ⟨_, (pss_cons (ps_set (i := 4) sc__law_says.nd rfl (Or.inl rfl) (pe_meth (pv 0) TT.cl_Posts TT.M_Posts_shows (ok_Posts_shows TT) (hr.mono (by decide)) TT.b_Posts_shows .nil pass0 (pa_cons (pv 1) (pa_cons (pv 2) pa_nil)))) (pss_one (ps_ret (pe_and (pe_callB call_isinst rfl TT.z_isinstance WB.bt_isinstance (pa_cons (pv 4) (pa_cons (pe_bltn (v := .ty "bool") rfl TT.z_bool WB.bt_bool rfl) pa_nil))) (pe_one (pe_cmpR op_eq (pv 4) (pv 3) (nomark _))))))), ?_⟩
    obtain ⟨dx, hx⟩ := Wl.ob
    refine ⟨_, rfl, x, dx, _, rfl, hx, pflds_noshows _ _, _, rfl, _, rfl, x, p, q, y, yq, ks, ps, n, rs, m, rfl, Wl, T, i1, i2, l1, l2, fun H1 s1 => ?_⟩
    rw [← e]
    refine ⟨_, rfl, _, "bool", .type "bool", true, rfl, .bl _, kit_bb, true, rfl, iteT ?_⟩
    refine ⟨_, rfl, _, rfl, rfl, ?_⟩
    have : decide (V.bl due = V.bl due) = true := decide_eq_true rfl
    rw [this]
    exact k H1 s1
end
end WR
namespace WR
open PySem L2
/-- the tree that was told, and its tree -/
structure Set5 (C : Addr) (H : Hp) (a q y yq : Addr) (n : Int) (rs : List Road) : Prop where
  tp : H a = some (.tup [.int n, .ref q])
  rd : RoadsAt H q rs
  tr : TreeAt C H y yq n rs
theorem Set5.keep {C : Addr} {H H' : Hp} {a q y yq : Addr} {n : Int} {rs : List Road} (S : Set5 C H a q y yq n rs) (s : Same H H') : Set5 C H' a q y yq n rs := ⟨s _ _ S.tp, S.rd.keep s, S.tr.keep s⟩
theorem Set5.len {C : Addr} {H : Hp} {a q y yq : Addr} {n : Int} {rs : List Road} (S : Set5 C H a q y yq n rs) : rs.length ≤ 400 := by
  have n2 := S.tr.ok.2.1
  have := S.tr.ok.2.2.count
  omega
structure Fit5 (n : Int) (rs : List Road) (ks ps : List Int) : Prop where
  i1 : ∀ k ∈ ks, 0 ≤ k ∧ k < rs.length
  i2 : ∀ v ∈ ps, 0 ≤ v ∧ v < n
  l1 : ks.length ≤ 100
  l2 : ps.length ≤ 100
theorem Fit5.set1 {n : Int} {rs : List Road} {ks ps : List Int} (F : Fit5 n rs ks ps) {v : Int} (i : Nat) (h : 0 ≤ v ∧ v < rs.length) : Fit5 n rs (ks.set i v) ps := ⟨fun k hk => by
  rcases List.mem_or_eq_of_mem_set hk with z | rfl
  · exact F.i1 k z
  · exact h, F.i2, by rw [List.length_set]; exact F.l1, F.l2⟩
theorem Fit5.set2 {n : Int} {rs : List Road} {ks ps : List Int} (F : Fit5 n rs ks ps) {v : Int} (i : Nat) (h : 0 ≤ v ∧ v < n) : Fit5 n rs ks (ps.set i v) := ⟨F.i1, fun k hk => by
  rcases List.mem_or_eq_of_mem_set hk with z | rfl
  · exact F.i2 k z
  · exact h, F.l1, by rw [List.length_set]; exact F.l2⟩
theorem Fit5.init {n : Int} {rs : List Road} {ks ps : List Int} (F : Fit5 n rs ks ps) : Fit5 n rs ks.dropLast ps.dropLast := ⟨fun k hk => F.i1 k ((List.dropLast_sublist ks).subset hk), fun k hk => F.i2 k ((List.dropLast_sublist ps).subset hk), by rw [List.length_dropLast]; have := F.l1; omega, by rw [List.length_dropLast]; have := F.l2; omega⟩
/-- an answer of our own -/
structure Mk (C : Addr) (H0 H : Hp) (x p q : Addr) (ks ps : List Int) : Prop where
  at_ : PostsAt C H x p q ks ps
  same : Same H0 H
  p0 : H0 p = none
  q0 : H0 q = none
  ne : p ≠ q
section
variable {C : Addr} {H0 H H' : Hp} {x p q : Addr} {ks ps : List Int}
theorem Mk.keep (M : Mk C H0 H x p q ks ps) (s : Same H H') : Mk C H0 H' x p q ks ps := ⟨M.at_.keep s, M.same.trans s, M.p0, M.q0, M.ne⟩
theorem Mk.put1 (M : Mk C H0 H x p q ks ps) (ks' : List Int) : Mk C H0 (upd H p (.lst (ks'.map V.int))) x p q ks' ps :=
  ⟨⟨let ⟨dx, h⟩ := M.at_.ob; ⟨dx, by rw [upd_ne (ne_of h M.at_.ks (by intro z; cases z))]; exact h⟩, upd_same, by rw [upd_ne M.ne.symm]; exact M.at_.vs⟩, same_upd M.same M.p0, M.p0, M.q0, M.ne⟩
theorem Mk.put2 (M : Mk C H0 H x p q ks ps) (ps' : List Int) : Mk C H0 (upd H q (.lst (ps'.map V.int))) x p q ks ps' :=
  ⟨⟨let ⟨dx, h⟩ := M.at_.ob; ⟨dx, by rw [upd_ne (ne_of h M.at_.vs (by intro z; cases z))]; exact h⟩, by rw [upd_ne M.ne]; exact M.at_.ks, upd_same⟩, same_upd M.same M.q0, M.p0, M.q0, M.ne⟩
end
theorem last_at {ws : List Int} (h : 0 < ws.length) : atI (ws.map V.int) (-1) = some (.int (ws.getD (ws.length - 1) 0)) := by
  have e : ixN (ws.map V.int).length (-1) = some (ws.length - 1) := by
    unfold ixN
    rw [List.length_map, if_neg (by decide), if_pos (by omega)]
    congr 1
    omega
  unfold atI
  rw [e]
  exact ints_at (at_getD (by omega))
theorem ixN_zero {n : Nat} (h : 0 < n) : ixN n 0 = some 0 := by
  unfold ixN
  rw [if_pos (by decide), if_pos (by omega)]
  rfl
theorem posted_nil (rs : List Road) : eqD (.lst (rs.map roadD)) (.lst []) = postedM rs [] [] 0 := by
  refine bool_of_iff ?_
  rw [posted_iff]
  constructor
  · intro h
    have := eqD_eq h
    injection this with this
    have : rs = [] := List.map_eq_nil_iff.mp this
    subst this
    exact ⟨rfl, rfl, List.nodup_nil, by simp⟩
  · rintro ⟨_, _, _, h⟩
    cases rs with
    | nil => rfl
    | cons r s => have := h r (List.mem_cons_self ..); simp at this
section
variable {K : PySem.W.Frag} {mg : Str → Option Value} {t : Adr} {σ : St} {H : Hp} {Q : VK}
theorem rdP (TT : Txt K mg t) {i : Nat} {x dx p q : Addr} (hi : σ[i]? = some (some (.ref x))) (hx : H x = some (.ins t.C_Posts dx (pflds p q))) (k : Q (.ref p) H) : tFld K (tVar i) "pairs" σ H Q :=
  ⟨_, hi, x, t.C_Posts, dx, _, _, rfl, hx, TT.cl_Posts, TT.n_Posts_pairs, pflds_pairs _ _, k⟩
theorem rdQ (TT : Txt K mg t) {i : Nat} {x dx p q : Addr} (hi : σ[i]? = some (some (.ref x))) (hx : H x = some (.ins t.C_Posts dx (pflds p q))) (k : Q (.ref q) H) : tFld K (tVar i) "posts" σ H Q :=
  ⟨_, hi, x, t.C_Posts, dx, _, _, rfl, hx, TT.cl_Posts, TT.n_Posts_posts, pflds_posts _ _, k⟩
theorem rd0 {i : Nat} {p : Addr} {v : V} {r : List V} (hi : σ[i]? = some (some (.ref p))) (hp : H p = some (.tup (v :: r))) (k : Q v H) : tOp (rIxT K) (tVar i) (tC (.int 0)) σ H Q :=
  ⟨_, hi, p, _, 0, v, rfl, rfl, SqT.of hp, atI_nat (j := 0) rfl, k⟩
theorem rd1 {i : Nat} {p : Addr} {u v : V} {r : List V} (hi : σ[i]? = some (some (.ref p))) (hp : H p = some (.tup (u :: v :: r))) (k : Q v H) : tOp (rIxT K) (tVar i) (tC (.int 1)) σ H Q :=
  ⟨_, hi, p, _, 1, v, rfl, rfl, SqT.of hp, atI_nat (j := 1) rfl, k⟩
theorem rdShown (TT : Txt K mg t) {i j : Nat} {te : TE} {x p r a q y yq : Addr} {n m : Int} {rs : List Road} {ks ps : List Int} (hi : σ[i]? = some (some (.ref x))) (hj : σ[j]? = some (some (.ref a))) (hm : ∀ H Q, Q (.int m) H → te σ H Q) (S : Set5 t.C_Tree H a q y yq n rs) (W : PostsAt t.C_Posts H x p r ks ps) (F : Fit5 n rs ks ps)
    (k : ∀ H', Same H H' → Q (.bl (postedM rs ks ps m)) H') : tCall sp_law_shown [] E0 (tCons (tVar j) (tCons (tFld K (tVar i) "pairs") (tCons (tFld K (tVar i) "posts") (tCons te tNil)))) σ H Q := by
  obtain ⟨dx, hx⟩ := W.ob
  exact ⟨_, hj, rdP TT hi hx (rdQ TT hi hx (hm _ _ ⟨a, q, p, r, n, rs, ks, ps, m, rfl, S.tp, S.rd, S.len, W.ks, W.vs, F.i1, F.l1, k⟩))⟩
theorem rdBoth (TT : Txt K mg t) {i j l : Nat} {te : TE} {x p r a q y yq : Addr} {n m : Int} {rs : List Road} {ks ps : List Int} (hi : σ[i]? = some (some (.ref x))) (hj : σ[j]? = some (some (.ref a))) (hl : σ[l]? = some (some (.ref y))) (hm : ∀ H Q, Q (.int m) H → te σ H Q) (S : Set5 t.C_Tree H a q y yq n rs) (W : PostsAt t.C_Posts H x p r ks ps) (F : Fit5 n rs ks ps)
    (k : ∀ H', Same H H' → Q (.bl true) H') : tCall (sp_says t) [] E0 (tCons (tVar i) (tCons (tVar l) (tCons te (tCons (tCall sp_law_shown [] E0 (tCons (tVar j) (tCons (tFld K (tVar i) "pairs") (tCons (tFld K (tVar i) "posts") (tCons te tNil))))) tNil)))) σ H Q :=
  ⟨_, hi, _, hl, hm _ _ (rdShown TT hi hj hm S W F fun H2 s2 => ⟨x, p, r, y, yq, ks, ps, n, rs, m, _, rfl, W.keep s2, S.tr.keep s2, F.i1, F.i2, F.l1, F.l2, rfl, fun H3 s3 => k H3 (s2.trans s3)⟩)⟩
theorem stBothI (TT : Txt K mg t) {D : Ends} {i j l : Nat} {te : TE} {x p r a q y yq : Addr} {n m : Int} {rs : List Road} {ks ps : List Int} (hi : σ[i]? = some (some (.ref x))) (hj : σ[j]? = some (some (.ref a))) (hl : σ[l]? = some (some (.ref y))) (hm : ∀ H Q, Q (.int m) H → te σ H Q) (S : Set5 t.C_Tree H a q y yq n rs) (W : PostsAt t.C_Posts H x p r ks ps) (F : Fit5 n rs ks ps)
    (k : ∀ H', Same H H' → D.nx σ H') : tIfS (tNot (tB (tCall (sp_says t) [] E0 (tCons (tVar i) (tCons (tVar l) (tCons te (tCons (tCall sp_law_shown [] E0 (tCons (tVar j) (tCons (tFld K (tVar i) "pairs") (tCons (tFld K (tVar i) "posts") (tCons te tNil))))) tNil))))))) (tRet (tC (.bl false))) tNext D σ H :=
  rdBoth (Q := fun x H1 => ∃ c, x = .bl c ∧ if (!c) = true then (tRet (tC (.bl false))) D σ H1 else tNext D σ H1) TT hi hj hl hm S W F fun H1 s1 => ⟨_, rfl, iteF (k H1 s1)⟩
theorem stBoth (TT : Txt K mg t) {B : TS} {D : Ends} {i j l : Nat} {te : TE} {x p r a q y yq : Addr} {n m : Int} {rs : List Road} {ks ps : List Int} (hi : σ[i]? = some (some (.ref x))) (hj : σ[j]? = some (some (.ref a))) (hl : σ[l]? = some (some (.ref y))) (hm : ∀ H Q, Q (.int m) H → te σ H Q) (S : Set5 t.C_Tree H a q y yq n rs) (W : PostsAt t.C_Posts H x p r ks ps) (F : Fit5 n rs ks ps)
    (k : ∀ H', Same H H' → B D σ H') : tSeq (tIfS (tNot (tB (tCall (sp_says t) [] E0 (tCons (tVar i) (tCons (tVar l) (tCons te (tCons (tCall sp_law_shown [] E0 (tCons (tVar j) (tCons (tFld K (tVar i) "pairs") (tCons (tFld K (tVar i) "posts") (tCons te tNil))))) tNil))))))) (tRet (tC (.bl false))) tNext) B D σ H :=
  stBothI (D := { D with nx := B D }) TT hi hj hl hm S W F k
theorem rdEnd (TT : Txt K mg t) {i j l : Nat} {x p r a q y yq : Addr} {n : Int} {rs : List Road} (hi : σ[i]? = some (some (.ref x))) (hj : σ[j]? = some (some (.ref a))) (hl : σ[l]? = some (some (.ref y))) (S : Set5 t.C_Tree H a q y yq n rs) (W : PostsAt t.C_Posts H x p r [] [])
    (k : ∀ H', Same H H' → Q (.bl true) H') : tCall (sp_says t) [] E0 (tCons (tVar i) (tCons (tVar l) (tCons (tC (.int 0)) (tCons (tOp (rEqD 8) (tOp (rIxT K) (tVar j) (tC (.int 1))) (tLst tNil)) tNil)))) σ H Q := by
  refine ⟨_, hi, _, hl, _, hj, a, _, 1, _, rfl, rfl, SqT.of S.tp, atI_nat (j := 1) rfl, by show 0 ≤ sizeLine; decide, fun em hem => ?_⟩
  have s1 : Same H (upd H em (.lst [])) := same_new hem
  obtain ⟨xs, h1, h2⟩ := S.rd.keep s1
  refine ⟨.lst (rs.map roadD), .lst [], ?_, ?_, ?_, ?_⟩
  · exact ⟨q, xs, rfl, h1, h2⟩
  · exact ⟨em, [], rfl, upd_same, .nil⟩
  · exact dep_roads rs
  · rw [posted_nil]
    exact ⟨x, p, r, y, yq, [], [], n, rs, 0, _, rfl, W.keep s1, S.tr.keep s1, by simp, by simp, by simp, by simp, rfl, fun H' s' => k H' (s1.trans s')⟩
end
def sp_changed (t : Adr) : Sp := fun vs H Q _ => ∃ (a q y yq x p r : Addr) (n : Int) (rs : List Road) (ks ps : List Int) (m : Int), vs = [.ref a, .ref y, .ref x, .int m] ∧ Set5 t.C_Tree H a q y yq n rs ∧ PostsAt t.C_Posts H x p r ks ps ∧ Fit5 n rs ks ps ∧ ks.length = ps.length ∧ (0 ≤ m ∧ m < n) ∧ ∀ H', Same H H' → Q (.bl true) H'
section
variable {P : Program} {w : World} {K : PySem.W.Frag} {mg : Str → Option Value} {base : Heap} {t : Adr}
theorem ok__law_changed_right (TT : Txt K mg t) : FnOk P w K mg base CX0 7 t.f__law_changed_right t.d__law_changed_right ["_law_told_here", "_law_tree", "_law_found", "_law_more"] (sp_changed t) := by
  refine TT.F__law_changed_right.ok sc__law_changed_right (fun vs H Q E h => ?_) (fun cdv A outer sh H vs Q E hr h => ?_)
  · obtain ⟨a, q, y, yq, x, p, r, n, rs, ks, ps, m, rfl, _⟩ := h
    rfl
  · obtain ⟨a, q, y, yq, x, p, r, n, rs, ks, ps, m, rfl, S, W, F, el, hm, k⟩ := h
    have hu8 := hu8_of hr
    have hx := W.ob.choose_spec
    refine ⟨_, (pss_cons (ps_par (i := 4) (j := 5) rfl sc__law_changed_right.nd rfl rfl (by decide) rfl rfl (pa_cons (pe_make TT.M_Posts (ok_Posts_init TT) (hr.mono (by decide)) rfl TT.m_Posts TT.b_Posts_init .nil pass0 (pa_cons (pe_fld (pv 2) rfl) (pa_cons (pe_fld (pv 2) rfl) pa_nil))) (pa_cons (pe_callB call_len_seq rfl TT.z_len WB.bt_len (pa_cons (pe_fld (pv 2) rfl) pa_nil)) pa_nil)) rfl) (pss_cons (ps_join (ps_if (pt_cmpR op_gt (pv 5) pe_int (nomark _)) (pss_cons (ps_asg (pv 3) (pg_sub (pe_fld (pv 4) rfl) pe_int set_list)) (pss_cons (ps_if (pt_not (pt_val (pe_call (ok__law_says TT) (hr.mono (by decide)) rfl TT.m__law_says TT.F__law_says.kp TT.b__law_says .nil pass0 (pa_cons (pv 4) (pa_cons (pv 1) (pa_cons (pv 5) (pa_cons (pe_call (ok__law_shown TT) (hr.mono (by decide)) rfl TT.m__law_shown TT.F__law_shown.kp TT.b__law_shown .nil pass0 (pa_cons (pv 0) (pa_cons (pe_fld (pv 4) rfl) (pa_cons (pe_fld (pv 4) rfl) (pa_cons (pv 5) pa_nil))))) pa_nil))))))) (pss_one (ps_ret pe_bl)) pss_nil) (pss_cons (ps_asg (pe_ix ix_list (pe_fld (pv 2) rfl) pe_int (fun _ _ => rfl)) (pg_sub (pe_fld (pv 4) rfl) pe_int set_list)) (pss_cons (ps_asg (pe_ix ix_list (pe_fld (pv 4) rfl) (pe_un un_neg pe_int) (fun _ _ => rfl)) (pg_sub (pe_fld (pv 4) rfl) pe_int set_list)) (pss_cons (ps_if (pt_not (pt_val (pe_call (ok__law_says TT) (hr.mono (by decide)) rfl TT.m__law_says TT.F__law_says.kp TT.b__law_says .nil pass0 (pa_cons (pv 4) (pa_cons (pv 1) (pa_cons (pv 5) (pa_cons (pe_call (ok__law_shown TT) (hr.mono (by decide)) rfl TT.m__law_shown TT.F__law_shown.kp TT.b__law_shown .nil pass0 (pa_cons (pv 0) (pa_cons (pe_fld (pv 4) rfl) (pa_cons (pe_fld (pv 4) rfl) (pa_cons (pv 5) pa_nil))))) pa_nil))))))) (pss_one (ps_ret pe_bl)) pss_nil) (pss_cons (ps_expr (pe_bm0 PySem.F.plainAttrs_list PySem.F.slot_list_pop PySem.F.type_list_pop mt_pop (pe_fld (pv 4) rfl))) (pss_cons (ps_expr (pe_bm0 PySem.F.plainAttrs_list PySem.F.slot_list_pop PySem.F.type_list_pop mt_pop (pe_fld (pv 4) rfl))) (pss_one (ps_if (pt_not (pt_val (pe_call (ok__law_says TT) (hr.mono (by decide)) rfl TT.m__law_says TT.F__law_says.kp TT.b__law_says .nil pass0 (pa_cons (pv 4) (pa_cons (pv 1) (pa_consB (pe_op op_sub (pv 5) pe_int) (pa_cons (pe_call (ok__law_shown TT) (hr.mono (by decide)) rfl TT.m__law_shown TT.F__law_shown.kp TT.b__law_shown .nil pass0 (pa_cons (pv 0) (pa_cons (pe_fld (pv 4) rfl) (pa_cons (pe_fld (pv 4) rfl) (pa_consB (pe_op op_sub (pv 5) pe_int) pa_nil))))) pa_nil))))))) (pss_one (ps_ret pe_bl)) pss_nil))))))))) pss_nil) (fun σ H1 => ∃ mx mp mq, σ = [some (.ref a), some (.ref y), some (.ref x), some (.int m), some (.ref mx), some (.int (ks.length : Nat))] ∧ Mk t.C_Posts H H1 mx mp mq ks ps) (fun σ _ σ' H2 => σ' = σ ∧ ∃ mx mp mq ks' ps', σ = [some (.ref a), some (.ref y), some (.ref x), some (.int m), some (.ref mx), some (.int (ks.length : Nat))] ∧ Mk t.C_Posts H H2 mx mp mq ks' ps') ?j0) (pss_cons (ps_expr (pe_bm0 PySem.F.plainAttrs_list PySem.F.slot_list_clear PySem.F.type_list_clear mt_clear (pe_fld (pv 4) rfl))) (pss_cons (ps_expr (pe_bm0 PySem.F.plainAttrs_list PySem.F.slot_list_clear PySem.F.type_list_clear mt_clear (pe_fld (pv 4) rfl))) (pss_one (ps_ret (pe_call (ok__law_says TT) (hr.mono (by decide)) rfl TT.m__law_says TT.F__law_says.kp TT.b__law_says .nil pass0 (pa_cons (pv 4) (pa_cons (pv 1) (pa_consC pe_int (pa_cons (pe_cmpR (op_eqD (k := 8) hu8) (pe_ix ix_tup (pv 0) pe_int (fun _ _ => rfl)) (pe_lst pa_nil) (nomark _)) pa_nil))))))))))), ?_⟩
    case j0 =>
      rintro σ H1 ⟨mx, mp, mq, rfl, M⟩
      refine ⟨_, rfl, _, _, rfl, rfl, _, rfl, ite2 (fun h0 => ?_) (fun _ => ⟨rfl, mx, mp, mq, ks, ps, rfl, M⟩)⟩
      have h0 : 0 < ks.length := by simpa using h0
      have p0 : 0 < ps.length := by omega
      -- made.posts[0] = more
      refine ⟨_, rfl, rdQ TT rfl M.at_.ob.choose_spec ⟨_, _, _, 0, rfl, rfl, M.at_.vs, ixN_zero (by rw [List.length_map]; exact p0), ?_⟩⟩
      rw [← List.map_set]
      have M1 := M.put2 (ps.set 0 m)
      have F1 := F.set2 0 hm
      generalize upd H1 mq (.lst ((ps.set 0 m).map V.int)) = H2 at M1 ⊢
      refine stBoth TT (m := ks.length) rfl rfl rfl (fun _ _ h => ⟨_, rfl, h⟩) (S.keep M1.same) M1.at_ F1 fun H3 s3 => ?_
      have M3 := M1.keep s3
      -- made.posts[0] = found.posts[0]
      refine ⟨_, rfl, _, t.C_Posts, _, _, _, rfl, (M3.same _ _ hx), TT.cl_Posts, TT.n_Posts_posts, pflds_posts _ _, _, _, _, .int (ps.getD 0 0), rfl, rfl, SqL.of (M3.same _ _ W.vs), atI_nat (j := 0) (ints_at (at_getD p0)), ?_⟩
      refine ⟨_, rfl, _, t.C_Posts, _, _, _, rfl, M3.at_.ob.choose_spec, TT.cl_Posts, TT.n_Posts_posts, pflds_posts _ _, _, _, _, 0, rfl, rfl, M3.at_.vs, ixN_zero (by rw [List.length_map, List.length_set]; exact p0), ?_⟩
      rw [← List.map_set]
      have M4 := M3.put2 ((ps.set 0 m).set 0 (ps.getD 0 0))
      have F4 := F1.set2 0 (F.i2 _ (List.mem_of_getElem? (at_getD p0)))
      generalize upd H3 mq (.lst (((ps.set 0 m).set 0 (ps.getD 0 0)).map V.int)) = H4 at M4 ⊢
      have pl : ((ps.set 0 m).set 0 (ps.getD 0 0)).length = ps.length := by rw [List.length_set, List.length_set]
      generalize (ps.set 0 m).set 0 (ps.getD 0 0) = ps2 at M4 F4 pl
      clear M M1 M3 F1 s3
      -- made.pairs[0] = made.pairs[-1]
      refine ⟨_, rfl, _, t.C_Posts, _, _, _, rfl, M4.at_.ob.choose_spec, TT.cl_Posts, TT.n_Posts_pairs, pflds_pairs _ _, _, rfl, _, _, _, .int (ks.getD (ks.length - 1) 0), rfl, rfl, SqL.of M4.at_.ks, last_at h0, ?_⟩
      refine ⟨_, rfl, _, t.C_Posts, _, _, _, rfl, M4.at_.ob.choose_spec, TT.cl_Posts, TT.n_Posts_pairs, pflds_pairs _ _, _, _, _, 0, rfl, rfl, M4.at_.ks, ixN_zero (by rw [List.length_map]; exact h0), ?_⟩
      rw [← List.map_set]
      have M5 := M4.put1 (ks.set 0 (ks.getD (ks.length - 1) 0))
      have F5 := F4.set1 0 (F.i1 _ (List.mem_of_getElem? (at_getD (show ks.length - 1 < ks.length by omega))))
      generalize upd H4 mp (.lst ((ks.set 0 (ks.getD (ks.length - 1) 0)).map V.int)) = H5 at M5 ⊢
      have kl : (ks.set 0 (ks.getD (ks.length - 1) 0)).length = ks.length := by rw [List.length_set]
      generalize ks.set 0 (ks.getD (ks.length - 1) 0) = ks2 at M5 F5 kl
      refine stBoth TT (m := ks.length) rfl rfl rfl (fun _ _ h => ⟨_, rfl, h⟩) (S.keep M5.same) M5.at_ F5 fun H6 s6 => ?_
      have M6 := M5.keep s6
      clear M4 M5 F4 s6
      -- made.pairs.pop(), made.posts.pop()
      refine ⟨_, rfl, _, t.C_Posts, _, _, _, rfl, M6.at_.ob.choose_spec, TT.cl_Posts, TT.n_Posts_pairs, pflds_pairs _ _, .inl ⟨rfl, _, SqL.of M6.at_.ks⟩, _, _, _, rfl, rfl, M6.at_.ks, ints_at (i := (ks2.map V.int).length - 1) (at_getD (by rw [List.length_map]; omega)), ?_⟩
      rw [show (ks2.map V.int).dropLast = ks2.dropLast.map V.int from (List.map_dropLast ..).symm]
      have M7 := M6.put1 ks2.dropLast
      generalize upd H6 mp (.lst (ks2.dropLast.map V.int)) = H7 at M7 ⊢
      refine ⟨_, rfl, _, t.C_Posts, _, _, _, rfl, M7.at_.ob.choose_spec, TT.cl_Posts, TT.n_Posts_posts, pflds_posts _ _, .inl ⟨rfl, _, SqL.of M7.at_.vs⟩, _, _, _, rfl, rfl, M7.at_.vs, ints_at (i := (ps2.map V.int).length - 1) (at_getD (by rw [List.length_map]; omega)), ?_⟩
      rw [show (ps2.map V.int).dropLast = ps2.dropLast.map V.int from (List.map_dropLast ..).symm]
      have M8 := M7.put2 ps2.dropLast
      generalize upd H7 mq (.lst (ps2.dropLast.map V.int)) = H8 at M8 ⊢
      refine stBothI TT (m := (ks.length : Int) - 1) rfl rfl rfl (fun _ _ h => ⟨_, rfl, _, _, rfl, rfl, h⟩) (S.keep M8.same) M8.at_ F5.init fun H9 s9 => ?_
      exact ⟨rfl, mx, mp, mq, _, _, rfl, M8.keep s9⟩
    show let B4 : TS := tRet (tCall (sp_says t) [] E0 (tCons (tVar 4) (tCons (tVar 1) (tCons (tC (V.int 0)) (tCons (tOp (rEqD 8) (tOp (rIxT K) (tVar 0) (tC (V.int 1))) (tLst tNil)) tNil))))); let B3 : TS := tSeq (tDrop (tBM0 K "list" rClear (tFld K (tVar 4) (Str.ofString "posts")))) B4; let B2 : TS := tSeq (tDrop (tBM0 K "list" rClear (tFld K (tVar 4) (Str.ofString "pairs")))) B3; let B1 : TS := tSeq (fun D σ H_1 => (∃ mx mp mq, σ = [some (V.ref a), some (V.ref y), some (V.ref x), some (V.int m), some (V.ref mx), some (V.int ↑(List.length ks))] ∧ Mk (Adr.C_Posts t) H H_1 mx mp mq ks ps) ∧ ∀ (σ' : St) (H' : Hp), (σ' = σ ∧ ∃ mx mp mq ks' ps', σ = [some (V.ref a), some (V.ref y), some (V.ref x), some (V.int m), some (V.ref mx), some (V.int ↑(List.length ks))] ∧ Mk (Adr.C_Posts t) H H' mx mp mq ks' ps') → Ends.nx D σ' H') B2; tSeq (tPar 4 5 (tCons (tMake (Adr.C_Posts t) (sp_Posts_init (Adr.C_Posts t)) [] E0 (tCons (tFld K (tVar 2) (Str.ofString "pairs")) (tCons (tFld K (tVar 2) (Str.ofString "posts")) tNil))) (tCons (tCB (fun xs H_1 Q => ∃ p ys, xs = [V.ref p] ∧ (SqL K H_1 p ys ∨ SqT K H_1 p ys) ∧ Q (V.int ↑(List.length ys)) H_1) (tCons (tFld K (tVar 2) (Str.ofString "pairs")) tNil)) tNil))) B1 _ _ _
    intro B4 B3 B2 B1
    -- made, many = Posts(..), len(..)
    refine ⟨_, rfl, _, t.C_Posts, _, _, _, rfl, hx, TT.cl_Posts, TT.n_Posts_pairs, pflds_pairs _ _, rdQ TT rfl hx fun mx mdx hmx hmdx hne => ?_⟩
    have s1 : Same H (upd (upd H mdx (.own mx)) mx (.ins t.C_Posts mdx [])) := (same_new hmdx).trans (same_new (by rw [upd_ne hne.symm]; exact hmx))
    refine ⟨mx, mdx, p, r, ks, ps, rfl, upd_same, s1 _ _ W.ks, s1 _ _ W.vs, fun mp mq H2 hp0 hq0 hpq hM kp => ⟨rfl, ?_⟩⟩
    have s2 : Same H H2 := fun b o e => kp _ _ (s1 _ _ e) (ne_of_none e hmx)
    have M : Mk t.C_Posts H H2 mx mp mq ks ps := ⟨hM, s2, s1.free hp0, s1.free hq0, hpq⟩
    clear hM s2 kp hp0 hq0 hpq s1 hmx hmdx hne
    refine ⟨_, rfl, _, t.C_Posts, _, _, _, rfl, (M.same _ _ hx), TT.cl_Posts, TT.n_Posts_pairs, pflds_pairs _ _, p, _, rfl, .inl (SqL.of (M.same _ _ W.ks)), _, _, rfl, ?_⟩
    rw [List.length_map]
    refine ⟨⟨mx, mp, mq, rfl, M⟩, fun σ' H3 ⟨e1, mx', mp', mq', ks', ps', e2, M3⟩ => ?_⟩
    subst e1
    cases e2
    clear M
    -- clear, clear
    refine ⟨_, rfl, _, t.C_Posts, _, _, _, rfl, M3.at_.ob.choose_spec, TT.cl_Posts, TT.n_Posts_pairs, pflds_pairs _ _, .inl ⟨rfl, _, SqL.of M3.at_.ks⟩, _, _, rfl, rfl, M3.at_.ks, ?_⟩
    have M4 := M3.put1 []
    show _
    refine ⟨_, rfl, _, t.C_Posts, _, _, _, rfl, M4.at_.ob.choose_spec, TT.cl_Posts, TT.n_Posts_posts, pflds_posts _ _, .inl ⟨rfl, _, SqL.of M4.at_.vs⟩, _, _, rfl, rfl, M4.at_.vs, ?_⟩
    have M5 := M4.put2 []
    exact rdEnd TT rfl rfl rfl (S.keep M5.same) M5.at_ fun H' s' => k H' (M5.same.trans s')
end
end WR
namespace WR
open PySem L2
theorem Tree.back {n : Nat} {rs : List Road} (W : Tree n rs) : Tree n rs.reverse := by
  have R := W.roads
  refine ⟨⟨fun r hr => R.lo r (List.mem_reverse.mp hr), fun r hr => R.hi r (List.mem_reverse.mp hr), fun r hr => R.ne r (List.mem_reverse.mp hr), fun r hr => R.ps r (List.mem_reverse.mp hr)⟩, by rw [List.length_reverse]; exact W.count, fun K k0 st => W.conn K k0 fun i x y l hx j => ?_⟩
  have g : ∀ r, rs[i]? = some r → rs.reverse[rs.length - 1 - i]? = some r := fun r h => by
    have hi := (List.getElem?_eq_some_iff.mp h).1
    rw [List.getElem?_reverse (by omega), show rs.length - 1 - (rs.length - 1 - i) = i by omega]
    exact h
  exact st (rs.length - 1 - i) x y l hx (j.imp (g _) (g _))
structure Good5 (n : Int) (rs : List Road) (ks ps : List Int) : Prop where
  r1 : ks.Pairwise (· < ·)
  r2 : ps.Pairwise (· < ·)
  fit : Fit5 n rs ks ps
  i1 : ∀ k ∈ ks, 0 ≤ k ∧ k < n - 1
  len : ks.length = ps.length
  l12 : ks.length ≤ 12
  sh : postedM rs ks ps ks.length = true
theorem Meet.symm {rs : List Road} {k j : Nat} (m : Meet rs k j) : Meet rs j k := let ⟨v, a, b⟩ := m; ⟨v, b, a⟩
theorem inM_end {n : Nat} {rs : List Road} {k : Nat} {r : Road} (h : rs[k]? = some r) : EndOf rs k (inM n rs r) := by
  obtain ⟨a, b, l⟩ := r
  refine ⟨a, b, l, h, ?_⟩
  unfold inM
  split
  · exact .inl rfl
  · exact .inr rfl
theorem PFound.good {n : Int} {rs : List Road} {ks ps : List Int} (T : IsTree n rs) (F : PFound n.toNat rs ks ps) (o1 : ks.Pairwise (· ≤ ·)) (o2 : ps.Pairwise (· ≤ ·)) : Good5 n rs ks ps := by
  obtain ⟨pre, prs, h1, h2, D, p1, p2⟩ := F
  have n1 := T.1
  have n2 := T.2.1
  have W := T.2.2
  have cnt := W.count
  have hN : ((n.toNat : Nat) : Int) = n := Int.toNat_of_nonneg (by omega)
  have at_ : ∀ k ∈ prs, rs[k.toNat]? = some (rs.getD k.toNat (0, 0, 0)) := fun k hk => by
    have := h2 k hk
    rw [List.getD_eq_getElem?_getD, List.getElem?_eq_getElem (by omega)]; rfl
  have ap : prs.Pairwise fun k j => ¬ Meet rs k.toNat j.toNat := List.pairwise_map.mp D.apart
  have nd1 : prs.Nodup := ap.imp_of_mem fun {k j} hk hj h e => by
    subst e
    exact h ⟨_, inM_end (n := 0) (at_ k hk), inM_end (n := 0) (at_ k hk)⟩
  have nd2 : (prs.map fun k => inM n.toNat rs (rs.getD k.toNat (0, 0, 0))).Nodup := List.pairwise_map.mpr (ap.imp_of_mem fun {k j} hk hj h e => h ⟨_, inM_end (at_ k hk), by rw [e]; exact inM_end (at_ j hj)⟩)
  have kn : ks.Nodup := p1.nodup_iff.mpr nd1
  have ki : ∀ k ∈ ks, 0 ≤ k ∧ k < rs.length := fun k hk => h2 k (p1.mem_iff.mp hk)
  have el : ks.length = ps.length := by rw [p1.length_eq, p2.length_eq, List.length_map]
  have l12 : ks.length ≤ 12 := by
    have := nodup_le kn (m := (List.range rs.length).map Int.ofNat) fun k hk => by
      obtain ⟨u, rfl⟩ := Int.eq_ofNat_of_zero_le (ki k hk).1
      exact List.mem_map.mpr ⟨u, List.mem_range.mpr (by have := (ki _ hk).2; omega), rfl⟩
    rw [List.length_map, List.length_range] at this
    omega
  refine ⟨rises o1 kn, rises o2 (p2.nodup_iff.mpr nd2), ⟨ki, fun v hv => ?_, by omega, by omega⟩, fun k hk => ⟨(ki k hk).1, by have := (ki k hk).2; omega⟩, el, l12, ?_⟩
  · obtain ⟨k, hk, rfl⟩ := List.mem_map.mp (p2.mem_iff.mp hv)
    have m := List.mem_of_getElem? (at_ k hk)
    have a := W.roads.lo _ m
    have b := W.roads.hi _ m
    rw [hN] at b
    unfold inM
    split
    · exact ⟨a.1, b.1⟩
    · exact ⟨a.2, b.2⟩
  · refine posted_iff.mpr ⟨rfl, by rw [el], ?_, fun r hr => ?_⟩
    · refine (ends_perm rs ks).nodup_iff.mp ((W.ends_nodup ks ki).mpr ?_)
      exact (p1.pairwise_iff fun h m => h m.symm).mpr ap
    · obtain ⟨i, hi⟩ := List.mem_iff_getElem?.mp hr
      have hl := (List.getElem?_eq_some_iff.mp hi).1
      obtain ⟨j, hj, s, hs, a, b, l, e, o⟩ := D.cover i (List.mem_map.mpr ⟨(i : Int), h1 i hl, Int.toNat_natCast i⟩)
      obtain ⟨k, hk, rfl⟩ := List.mem_map.mp hj
      have hm : inM n.toNat rs s ∈ ps := p2.mem_iff.mpr (List.mem_map.mpr ⟨k, hk, by rw [List.getD_eq_getElem?_getD, hs]; rfl⟩)
      rw [hi] at e
      injection e with e
      subst e
      rcases o with o | o
      · exact .inl (o ▸ hm)
      · exact .inr (o ▸ hm)
theorem KL.seq {t : Adr} {K : PySem.W.Frag} {H H' : Hp} (k : KL t H H') {a : Addr} {xs : List V} (h : SqL K H a xs) : SqL K H' a xs := by
  rcases h with (h | ⟨o, h⟩) | h
  · exact .inl (.inl (k.l h))
  · exact .inl (.inr ⟨o, k.get h fun _ z => by cases z⟩)
  · exact .inr h
theorem RoadsAt.lift {H H' : Hp} {q : Addr} {rs : List Road} (R : RoadsAt H q rs) (h2 : ∀ b xs, H b = some (.lst xs) → H' b = some (.lst xs)) (h3 : ∀ b xs, H b = some (.tup xs) → H' b = some (.tup xs)) : RoadsAt H' q rs :=
  let ⟨xs, e, r⟩ := R; ⟨xs, h2 _ _ e, r.froz h3 (frozs_roads rs)⟩
theorem Set5.keepL {t : Adr} {C : Addr} {H H' : Hp} {a q y yq : Addr} {n : Int} {rs : List Road} (S : Set5 C H a q y yq n rs) (k : KL t H H') : Set5 C H' a q y yq n rs :=
  ⟨k.tu S.tp, S.rd.lift (fun _ _ e => k.l e) fun _ _ e => k.tu e, S.tr.keepL k⟩
theorem reps_rev {H : Hp} : ∀ {rs : List Road} {xs : List V}, Reps H xs (rs.map roadD) → Reps H xs.reverse (rs.reverse.map roadD)
  | [], xs, h => by
    have := h.length
    rw [List.eq_nil_of_length_eq_zero this]; exact .nil
  | r :: rs, xs, h => by
    rw [List.map_cons] at h
    unfold Reps at h
    obtain ⟨x, xr, rfl, hx, hr⟩ := h
    rw [List.reverse_cons, List.reverse_cons, List.map_append]
    exact Reps.append (reps_rev hr) (.cons hx .nil)
end WR
namespace WR
open PySem L2
def laI (t : Adr) (H2 : Hp) (a p x : Addr) : Nat → St → Hp → Prop := fun _ σ H8 => (∃ v : Nat → Option V, σ = [some (.ref a), some (.ref p), some (.ref x), v 3, v 4, v 5, v 6, v 7, v 8, v 9, v 10]) ∧ KL t H2 H8
theorem st11 {a0 a1 a2 a3 a4 a5 a6 a7 a8 a9 a10 : Option V} : ∃ v : Nat → Option V, ([a0, a1, a2, a3, a4, a5, a6, a7, a8, a9, a10] : St) = [a0, a1, a2, v 3, v 4, v 5, v 6, v 7, v 8, v 9, v 10] := ⟨fun i => ([a0, a1, a2, a3, a4, a5, a6, a7, a8, a9, a10] : St).getD i none, rfl⟩
theorem one_of (bw bc : Addr) (c : Int) : ∃ z, (z = bw ∨ z = bc) ∧ atI [V.ref bw, V.ref bc] (c % 2) = some (V.ref z) := by
  rcases Int.emod_two_eq c with h | h
  · exact ⟨bw, .inl rfl, by rw [h]; exact atI_nat (j := 0) rfl⟩
  · exact ⟨bc, .inr rfl, by rw [h]; exact atI_nat (j := 1) rfl⟩
section
variable {P : Program} {w : World} {K : PySem.W.Frag} {mg : Str → Option Value} {base : Heap} {t : Adr}
theorem law_read (TT : Txt K mg t) {H : Hp} {Q : VK} {a : Addr} {ns : List Int} (hS : SqL K H a (ns.map V.int)) (hP1 : H t.P_paired = some (.tbl #[])) (k : ∀ H', Q (.bl true) H') {B1 B2 B3 B4 B5 B6 B7 B8 B9 B10 B11 B12 B13 B14 B15 B16 B17 B18 B19 B20 B21 B22 B23 B24 : TS}
    (e1 : B1 = tSeq (tAsg (tMake (Adr.C_Tree t) (sp_Tree_init (Adr.C_Tree t)) [] E0 (tCons (tOp (rIxT K) (tVar 1) (tC (V.int 0))) (tCons (tOp (rIxT K) (tVar 1) (tC (V.int 1))) tNil))) (gName 2)) B2)
    (e2 : B2 = tSeq (tFor (iRng1 (tCons (tC (V.int 2)) tNil)) (gName 3) B3) B24)
    (e3 : B3 = tSeq (tAsg (tCall (sp_paired t) [] E0 (tCons (tVar 2) tNil)) (gName 4)) B4)
    (e4 : B4 = tSeq (tIfS (tOr (tNot (tB (tCB (fun xs H_1 Q => ∃ x C' t_1 b, xs = [x, V.ref C'] ∧ TyOf K H_1 x t_1 ∧ W.kitOne K t_1 (Value.ref C') = some b ∧ Q (V.bl b) H_1) (tCons (tVar 4) (tCons (tC (V.ref (Adr.C_Posts t))) tNil))))) (tOr (tNot (tB (tCB (fun xs H_1 Q => ∃ x C' t_1 b, xs = [x, V.ref C'] ∧ TyOf K H_1 x t_1 ∧ W.kitOne K t_1 (Value.ref C') = some b ∧ Q (V.bl b) H_1) (tCons (tVar 4) (tCons (tC (V.ref (Adr.C_Answer t))) tNil))))) (tB (tCB (fun xs H_1 Q => ∃ x C' t_1 b, xs = [x, V.ref C'] ∧ TyOf K H_1 x t_1 ∧ W.kitOne K t_1 (Value.ref C') = some b ∧ Q (V.bl b) H_1) (tCons (tVar 4) (tCons (tC (V.ref (Adr.C_Wells t))) tNil)))))) (tRet (tC (V.bl false))) tNext) B5)
    (e5 : B5 = tSeq (tIfS (tOr (tNot (tB (tCall sp_rising [] E0 (tCons (tFld K (tVar 4) (Str.ofString "pairs")) (tCons (tOp (rI0 fun i j => V.int (i - j)) (tOp (rIxT K) (tVar 1) (tC (V.int 0))) (tC (V.int 1))) tNil))))) (tNot (tB (tCall sp_rising [] E0 (tCons (tFld K (tVar 4) (Str.ofString "posts")) (tCons (tOp (rIxT K) (tVar 1) (tC (V.int 0))) tNil)))))) (tRet (tC (V.bl false))) tNext) B6)
    (e6 : B6 = tSeq (tAsg (tCB (fun xs H_1 Q => ∃ p ys, xs = [V.ref p] ∧ (SqL K H_1 p ys ∨ SqT K H_1 p ys) ∧ Q (V.int ↑(List.length ys)) H_1) (tCons (tFld K (tVar 4) (Str.ofString "pairs")) tNil)) (gName 5)) B7)
    (e7 : B7 = tSeq (tIfS (tOr (tNot (tB (tCall sp_law_shown [] E0 (tCons (tVar 1) (tCons (tFld K (tVar 4) (Str.ofString "pairs")) (tCons (tFld K (tVar 4) (Str.ofString "posts")) (tCons (tVar 5) tNil))))))) (tB (tIsNotB true (tMeth (Adr.C_Posts t) (Str.ofString "shows") (sp_shows t) [] E0 (tVar 4) (tCons (tVar 2) (tCons (tVar 5) tNil)))))) (tRet (tC (V.bl false))) tNext) B8)
    (e8 : B8 = tSeq (tIfS (tB (tIsNotB false (tMeth (Adr.C_Posts t) (Str.ofString "shows") (sp_shows t) [] E0 (tVar 4) (tCons (tVar 2) (tCons (tOp (rI0 fun i j => V.int (i + j)) (tVar 5) (tC (V.int 1))) tNil))))) (tRet (tC (V.bl false))) tNext) B9)
    (e9 : B9 = tSeq (tIfS (tNot (tB (tCall (sp_changed t) [] E0 (tCons (tVar 1) (tCons (tVar 2) (tCons (tVar 4) (tCons (tOp (rI (fun x j => 0 < j) fun i j => V.int (i % j)) (tOp (rI CDiv fun i j => V.int (i / j)) (tCall (sp_cell_at K) [] E0 (tCons (tVar 0) (tCons (tC (V.int 3)) tNil))) (tC (V.int 4))) (tOp (rIxT K) (tVar 1) (tC (V.int 0)))) tNil))))))) (tRet (tC (V.bl false))) tNext) B10)
    (e10 : B10 = tSeq (tAsg (tCall sp_bent [] E0 (tCons (tFld K (tVar 4) (Str.ofString "pairs")) (tCons (tCall (sp_cell_at K) [] E0 (tCons (tVar 0) (tCons (tC (V.int 2)) tNil))) (tCons (tOp (rI0 fun i j => V.int (i - j)) (tOp (rIxT K) (tVar 1) (tC (V.int 0))) (tC (V.int 1))) tNil)))) (gName 6)) B11)
    (e11 : B11 = tSeq (tAsg (tCall sp_bent [] E0 (tCons (tFld K (tVar 4) (Str.ofString "posts")) (tCons (tCall (sp_cell_at K) [] E0 (tCons (tVar 0) (tCons (tC (V.int 3)) tNil))) (tCons (tOp (rIxT K) (tVar 1) (tC (V.int 0))) tNil)))) (gName 7)) B12)
    (e12 : B12 = tSeq (tAsg (tCB (fun xs H_1 Q => ∃ p ys, xs = [V.ref p] ∧ (SqL K H_1 p ys ∨ SqT K H_1 p ys) ∧ Q (V.int ↑(List.length ys)) H_1) (tCons (tOp (rIxL K) (tLst (tCons (tVar 6) (tCons (tVar 7) tNil))) (tOp (rI (fun x j => 0 < j) fun i j => V.int (i % j)) (tCall (sp_cell_at K) [] E0 (tCons (tVar 0) (tCons (tC (V.int 4)) tNil))) (tC (V.int 2)))) tNil)) (gName 5)) B13)
    (e13 : B13 = tSeq (tAsg (tCall sp_law_shown [] E0 (tCons (tVar 1) (tCons (tVar 6) (tCons (tVar 7) (tCons (tVar 5) tNil))))) (gName 8)) B14)
    (e14 : B14 = tSeq (tAsg (tMake (Adr.C_Posts t) (sp_Posts_init (Adr.C_Posts t)) [] E0 (tCons (tVar 6) (tCons (tVar 7) tNil))) (gName 9)) B15)
    (e15 : B15 = tSeq (tDrop (tBM0 K "list" rClear (tVar 6))) B16)
    (e16 : B16 = tSeq (tDrop (tBM0 K "list" rClear (tVar 7))) B17)
    (e17 : B17 = tSeq (tIfS (tNot (tB (tCall (sp_says t) [] E0 (tCons (tVar 9) (tCons (tVar 2) (tCons (tVar 5) (tCons (tVar 8) tNil))))))) (tRet (tC (V.bl false))) tNext) B18)
    (e18 : B18 = tSeq (tAsg (tTup (tCons (tOp (rIxT K) (tVar 1) (tC (V.int 0))) (tCons (tRevX K (tOp (rIxT K) (tVar 1) (tC (V.int 1)))) tNil))) (gName 10)) B19)
    (e19 : B19 = tSeq (tAsg (tCall sp_law_shown [] E0 (tCons (tVar 10) (tCons (tFld K (tVar 9) (Str.ofString "pairs")) (tCons (tFld K (tVar 9) (Str.ofString "posts")) (tCons (tVar 5) tNil))))) (gName 8)) B20)
    (e20 : B20 = tSeq (tIfS (tTest (tOp rNe (tMeth (Adr.C_Posts t) (Str.ofString "shows") (sp_shows t) [] E0 (tVar 9) (tCons (tMake (Adr.C_Tree t) (sp_Tree_init (Adr.C_Tree t)) [] E0 (tCons (tOp (rIxT K) (tVar 10) (tC (V.int 0))) (tCons (tOp (rIxT K) (tVar 10) (tC (V.int 1))) tNil))) (tCons (tVar 5) tNil))) (tVar 8))) (tRet (tC (V.bl false))) tNext) B21)
    (e21 : B21 = tSeq (tDrop (tBM0 K "list" rClear (tFld K (tVar 4) (Str.ofString "pairs")))) B22)
    (e22 : B22 = tSeq (tDrop (tBM0 K "list" rClear (tFld K (tVar 4) (Str.ofString "posts")))) B23)
    (e23 : B23 = tIfS (tNot (tB (tCall (sp_says t) [] E0 (tCons (tVar 4) (tCons (tVar 2) (tCons (tC (V.int 0)) (tCons (tOp (rEqD 8) (tOp (rIxT K) (tVar 1) (tC (V.int 1))) (tLst tNil)) tNil))))))) (tRet (tC (V.bl false))) tNext)
    (e24 : B24 = tRet (tC (V.bl true)))
    : tSeq (tAsg (tCall (sp_told K) [] E0 (tCons (tVar 0) (tCons (tC (V.int 0)) (tCons (tC (V.int 12)) tNil)))) (gName 1)) B1 { nx := fun x H' => Q V.non H', rt := Q } (L2.start [Str.ofString "_law_script", Str.ofString "_law_told_here", Str.ofString "_law_tree", Str.ofString "_law_again", Str.ofString "_law_found", Str.ofString "_law_many", Str.ofString "_law_pairs", Str.ofString "_law_posts", Str.ofString "_law_due", Str.ofString "_law_bent_here", Str.ofString "_law_back"] [V.ref a]) H := by
  have L0 : Lams t H := ⟨⟨#[], hP1, True.intro, .inl rfl⟩⟩
  -- told, tree
  refine ⟨_, rfl, a, ns, 0, 12, rfl, hS, by decide, by decide, by decide, fun p q n rs H1 hp0 hq0 hpq s1 hp hR hT hn => ?_⟩
  rw [e1]
  refine rd0 rfl hp (rd1 rfl hp fun x dx hx hdx hne => ?_)
  have s2 : Same H1 (upd (upd H1 dx (.own x)) x (.ins t.C_Tree dx [])) := (same_new hdx).trans (same_new (by rw [upd_ne hne.symm]; exact hx))
  refine ⟨x, dx, q, n, rs, rfl, upd_same, hR.keep s2, hT, fun tq H2 htq T kp => ⟨rfl, ?_⟩⟩
  have s3 : Same H1 H2 := fun b o e => kp _ _ (s2 _ _ e) (ne_of_none e hx)
  have S2 : Set5 t.C_Tree H2 p q x tq n rs := ⟨s3 _ _ hp, hR.keep s3, T⟩
  have L2 := L0.same (s1.trans s3)
  have hS2 := (s1.trans s3).seq hS
  clear kp s2 hR hp htq hx hdx hne hp0 hq0 s3 s1 hS L0 T
  have n1 := hT.1
  have n2 := hT.2.1
  have W := hT.2.2
  have hN : ((n.toNat : Nat) : Int) = n := Int.toNat_of_nonneg (by omega)
  have hc := W.count
  -- for again in range(2)
  rw [e2]
  refine ⟨2, rfl, by decide, by decide, ?_⟩
  refine for_range (lo := 0) (n := 2) (laI t H2 a p x) ⟨st11, .refl L2⟩ ?_ ?_
  · rintro i σ H8 hi ⟨⟨v, rfl⟩, k8⟩
    -- found = paired(tree)
    rw [e3]
    refine ⟨_, rfl, x, tq, n, rs, rfl, S2.tr.keepL k8, k8.lam', fun fx fp fq ks ps H9 hfx hfp hfq fpq k89 hW o1 o2 F => ?_⟩
    have G := F.good hT o1 o2
    have k9 := k8.trans k89
    have fp0 := k8.free hfp
    have fq0 := k8.free hfq
    clear F o1 o2 k89 hfx hfp hfq k8
    have hx := hW.ob.choose_spec
    have S9 := S2.keepL k9
    have el := G.len
    have l12 := G.l12
    -- isinstance
    rw [e4]
    refine ⟨_, rfl, _, _, _, true, rfl, TT.ty_Posts hx, kitOne_same _ _, _, rfl, iteF ?_⟩
    refine ⟨_, rfl, _, _, _, true, rfl, TT.ty_Posts hx, TT.o_Posts_Answer, _, rfl, iteF ?_⟩
    refine ⟨_, rfl, _, _, _, false, rfl, TT.ty_Posts hx, TT.o_Posts_Wells, _, rfl, iteF ?_⟩
    -- rising
    rw [e5]
    refine ⟨_, rfl, _, t.C_Posts, _, _, _, rfl, hx, TT.cl_Posts, TT.n_Posts_pairs, pflds_pairs _ _, rd0 rfl S9.tp ⟨_, _, rfl, rfl, fp, ks, n - 1, rfl, hW.ks, G.r1, G.i1, _, rfl, iteF ?_⟩⟩
    refine ⟨_, rfl, _, t.C_Posts, _, _, _, rfl, hx, TT.cl_Posts, TT.n_Posts_posts, pflds_posts _ _, rd0 rfl S9.tp ⟨fq, ps, n, rfl, hW.vs, G.r2, G.fit.i2, _, rfl, iteF ?_⟩⟩
    -- many = len(found.pairs)
    rw [e6]
    refine ⟨_, rfl, _, t.C_Posts, _, _, _, rfl, hx, TT.cl_Posts, TT.n_Posts_pairs, pflds_pairs _ _, fp, _, rfl, .inl (SqL.of hW.ks), ?_⟩
    rw [List.length_map]
    -- shown, shows
    rw [e7]
    refine rdShown TT (m := ks.length) rfl rfl (fun _ _ h => ⟨_, rfl, h⟩) S9 hW G.fit fun H10 s10 => ⟨_, rfl, ite_f (by rw [G.sh]; rfl) ?_⟩
    refine ⟨_, rfl, fx, _, _, rfl, s10 _ _ hx, pflds_noshows _ _, _, rfl, _, rfl, fx, fp, fq, x, tq, ks, ps, n, rs, _, rfl, hW.keep s10, S9.tr.keep s10, G.fit.i1, G.fit.i2, G.fit.l1, G.fit.l2, fun H11 s11 => ⟨_, rfl, _, rfl, ite_f (by show (!(postedM rs ks ps ks.length == true)) = false; rw [G.sh]; rfl) ?_⟩⟩
    -- shows(many + 1)
    have s11 := s10.trans s11
    rw [e8]
    refine ⟨_, rfl, fx, _, _, rfl, s11 _ _ hx, pflds_noshows _ _, _, rfl, _, rfl, _, _, rfl, rfl, fx, fp, fq, x, tq, ks, ps, n, rs, _, rfl, hW.keep s11, S9.tr.keep s11, G.fit.i1, G.fit.i2, G.fit.l1, G.fit.l2, fun H12 s12 => ⟨_, rfl, _, rfl, ite_f (by show (!(postedM rs ks ps (ks.length + 1) == false)) = false; rw [posted_no (fun h => by have := h.1; omega)]; rfl) ?_⟩⟩
    have s12 := s11.trans s12
    have k12 := k9.same s12
    have W12 := hW.keep s12
    clear s10 s11 s12 hW hx k9 S9
    have S12 := S2.keepL k12
    -- changed
    rw [e9]
    refine ⟨_, rfl, _, rfl, _, rfl, _, rfl, a, ns, 3, rfl, k12.seq hS2, by decide, fun c3 => ?_⟩
    refine ⟨_, _, rfl, rfl, ⟨by decide, by decide⟩, _, rfl, p, _, 0, _, rfl, rfl, SqT.of S12.tp, atI_nat (j := 0) rfl, _, _, rfl, rfl, (by show (0 : Int) < n; omega), p, q, x, tq, fx, fp, fq, n, rs, ks, ps, _, rfl, S12, W12, G.fit, el, ⟨Int.emod_nonneg _ (by omega), Int.emod_lt_of_pos _ (by omega)⟩, fun H13 s13 => ⟨_, rfl, iteF ?_⟩⟩
    have k13 := k12.same s13
    have W13 := W12.keep s13
    clear s13 S12 k12 W12
    have hx := W13.ob.choose_spec
    -- pairs = bent(..)
    rw [e10]
    refine ⟨_, rfl, _, t.C_Posts, _, _, _, rfl, hx, TT.cl_Posts, TT.n_Posts_pairs, pflds_pairs _ _, _, rfl, a, ns, 2, rfl, k13.seq hS2, by decide, fun c2 => rd0 rfl (k13.tu S2.tp) ⟨_, _, rfl, rfl, fp, ks, c2, n - 1, rfl, W13.ks, by omega, G.i1, by omega, by omega, fun bw yw H14 hbw s14 hbw2 lyw iyw => ?_⟩⟩
    have k14 := k13.same s14
    -- posts = bent(..)
    rw [e11]
    refine ⟨_, rfl, _, t.C_Posts, _, _, _, rfl, s14 _ _ hx, TT.cl_Posts, TT.n_Posts_posts, pflds_posts _ _, _, rfl, a, ns, 3, rfl, k14.seq hS2, by decide, fun c4 => rd0 rfl (k14.tu S2.tp) ⟨fq, ps, c4, n, rfl, s14 _ _ W13.vs, by omega, G.fit.i2, by omega, by omega, fun bc yc H15 hbc s15 hbc2 lyc iyc => ?_⟩⟩
    have k15 := k14.same s15
    have W15 := W13.keep (s14.trans s15)
    have bw0 := k13.free hbw
    have bc0 := k14.free hbc
    have hbw3 := s15 _ _ hbw2
    have bwc : bw ≠ bc := ne_of_none hbw2 hbc
    have FB : Fit5 n rs yw yc := ⟨fun k hk => ⟨(iyw k hk).1, by have := (iyw k hk).2; omega⟩, iyc, by omega, by omega⟩
    have wfp : fp ≠ bw := ne_of_none W13.ks hbw
    have wfq : fq ≠ bw := ne_of_none W13.vs hbw
    have wfx : fx ≠ bw := ne_of_none hx hbw
    have cfp : fp ≠ bc := ne_of_none (s14 _ _ W13.ks) hbc
    have cfq : fq ≠ bc := ne_of_none (s14 _ _ W13.vs) hbc
    have cfx : fx ≠ bc := ne_of_none (s14 _ _ hx) hbc
    clear hbw hbc hbw2 s14 s15 k13 k14 W13 hx
    -- many = len([pairs, posts][cell % 2])
    rw [e12]
    refine ⟨_, rfl, _, rfl, by show 2 ≤ sizeLine; decide, fun ls hls => ?_⟩
    have s16 := same_new (o := .lst [.ref bw, .ref bc]) hls
    have k16 := k15.same s16
    refine ⟨_, rfl, a, ns, 4, rfl, k16.seq hS2, by decide, fun c5 => ⟨_, _, rfl, rfl, (by show (0 : Int) < 2; decide), ?_⟩⟩
    obtain ⟨z, hz, ez⟩ := one_of bw bc c5
    have hbw16 := s16 _ _ hbw3
    have hbc16 := s16 _ _ hbc2
    obtain ⟨zs, hzs⟩ : ∃ zs, upd H15 ls (.lst [.ref bw, .ref bc]) z = some (.lst zs) := by
      rcases hz with rfl | rfl
      · exact ⟨_, hbw16⟩
      · exact ⟨_, hbc16⟩
    refine ⟨ls, _, _, _, rfl, rfl, SqL.of upd_same, ez, z, zs, rfl, .inl (SqL.of hzs), ?_⟩
    have W16 := W15.keep s16
    generalize upd H15 ls (.lst [.ref bw, .ref bc]) = H16 at k16 W16 hbw16 hbc16 ⊢
    generalize ((zs.length : Nat) : Int) = m
    clear hzs hz ez s16 hls W15 k15 hbw3 hbc2
    have S16 := S2.keepL k16
    -- due
    rw [e13]
    refine ⟨_, rfl, _, rfl, _, rfl, _, rfl, p, q, bw, bc, n, rs, yw, yc, m, rfl, S16.tp, S16.rd, S16.len, hbw16, hbc16, FB.i1, FB.l1, fun H17 s17 => ?_⟩
    have k17 := k16.same s17
    -- bent = Posts(pairs, posts)
    rw [e14]
    refine ⟨_, rfl, _, rfl, fun b bdx hb hbdx hbne => ?_⟩
    have s18 : Same H17 (upd (upd H17 bdx (.own b)) b (.ins t.C_Posts bdx [])) := (same_new hbdx).trans (same_new (by rw [upd_ne hbne.symm]; exact hb))
    refine ⟨b, bdx, bw, bc, yw, yc, rfl, upd_same, s18 _ _ (s17 _ _ hbw16), s18 _ _ (s17 _ _ hbc16), fun bp bq H19 hbp hbq bpq hB kp => ⟨rfl, ?_⟩⟩
    have s19 : Same H17 H19 := fun c o e => kp _ _ (s18 _ _ e) (ne_of_none e hb)
    have k19 := k17.same s19
    have W19 := W16.keep (s17.trans s19)
    have hbw19 := s19 _ _ (s17 _ _ hbw16)
    have hbc19 := s19 _ _ (s17 _ _ hbc16)
    have o1 : bp ≠ bw := (ne_of_none (s18 _ _ (s17 _ _ hbw16)) hbp).symm
    have o2 : bq ≠ bw := (ne_of_none (s18 _ _ (s17 _ _ hbw16)) hbq).symm
    have o3 : bp ≠ bc := (ne_of_none (s18 _ _ (s17 _ _ hbc16)) hbp).symm
    have o4 : bq ≠ bc := (ne_of_none (s18 _ _ (s17 _ _ hbc16)) hbq).symm
    have o5 : b ≠ bw := (ne_of_none (s17 _ _ hbw16) hb).symm
    have o6 : b ≠ bc := (ne_of_none (s17 _ _ hbc16) hb).symm
    have p1 : bp ≠ fp := (ne_of_none (s18 _ _ (s17 _ _ W16.ks)) hbp).symm
    have p2 : bp ≠ fq := (ne_of_none (s18 _ _ (s17 _ _ W16.vs)) hbp).symm
    have p3 : bq ≠ fp := (ne_of_none (s18 _ _ (s17 _ _ W16.ks)) hbq).symm
    have p4 : bq ≠ fq := (ne_of_none (s18 _ _ (s17 _ _ W16.vs)) hbq).symm
    clear kp s18 hb hbdx hbne hbp hbq s17 s19 hbw16 hbc16 k16 k17 W16 S16
    -- pairs.clear(), posts.clear()
    rw [e15]
    refine ⟨_, rfl, .inl ⟨rfl, _, SqL.of hbw19⟩, bw, _, rfl, rfl, hbw19, ?_⟩
    have hbc20 : upd H19 bw (.lst []) bc = some (.lst (yc.map V.int)) := by rw [upd_ne bwc.symm]; exact hbc19
    rw [e16]
    refine ⟨_, rfl, .inl ⟨rfl, _, SqL.of hbc20⟩, bc, _, rfl, rfl, hbc20, ?_⟩
    have k20 : KL t H2 (upd (upd H19 bw (.lst [])) bc (.lst [])) := (k19.put bw0 hbw19).put bc0 hbc20
    have g20 : ∀ c o, c ≠ bw → c ≠ bc → H19 c = some o → upd (upd H19 bw (.lst [])) bc (.lst []) c = some o := fun c o h1 h2 e => by rw [upd_ne h2, upd_ne h1]; exact e
    have B20 : PostsAt t.C_Posts (upd (upd H19 bw (.lst [])) bc (.lst [])) b bp bq yw yc := ⟨let ⟨z, hz⟩ := hB.ob; ⟨z, g20 _ _ o5 o6 hz⟩, g20 _ _ o1 o3 hB.ks, g20 _ _ o2 o4 hB.vs⟩
    have W20 : PostsAt t.C_Posts (upd (upd H19 bw (.lst [])) bc (.lst [])) fx fp fq ks ps := ⟨let ⟨z, hz⟩ := W19.ob; ⟨z, g20 _ _ wfx cfx hz⟩, g20 _ _ wfp cfp W19.ks, g20 _ _ wfq cfq W19.vs⟩
    generalize upd (upd H19 bw (.lst [])) bc (.lst []) = H20 at k20 B20 W20 ⊢
    clear g20 hbc20 hbw19 hbc19 hB W19 k19 o1 o2 o3 o4 o5 o6 wfp wfq wfx cfp cfq cfx bwc p1 p2 p3 p4
    have S20 := S2.keepL k20
    -- says(bent, tree, many, due)
    rw [e17]
    refine ⟨_, rfl, _, rfl, _, rfl, _, rfl, b, bp, bq, x, tq, yw, yc, n, rs, m, _, rfl, B20, S20.tr, FB.i1, FB.i2, FB.l1, FB.l2, rfl, fun H21 s21 => ⟨_, rfl, iteF ?_⟩⟩
    have S21 := S20.keep s21
    have B21 := B20.keep s21
    -- back
    obtain ⟨xs, hq, hxs⟩ := S21.rd
    rw [e18]
    refine rd0 rfl S21.tp (rd1 rfl S21.tp ⟨q, xs, rfl, SqL.of hq, fun rv hrv => ⟨by show 2 ≤ sizeLine; decide, fun bk hbk => ?_⟩⟩)
    have s22 : Same H21 (upd H21 rv (.lst xs.reverse)) := same_new hrv
    have s23 := s22.trans (same_new (o := .tup [.int n, .ref rv]) hbk)
    have hbk3 : upd (upd H21 rv (.lst xs.reverse)) bk (.tup [.int n, .ref rv]) bk = some (.tup [.int n, .ref rv]) := upd_same
    have R23 : RoadsAt (upd (upd H21 rv (.lst xs.reverse)) bk (.tup [.int n, .ref rv])) rv rs.reverse := ⟨_, same_new hbk _ _ upd_same, (reps_rev hxs).keep s23⟩
    generalize upd (upd H21 rv (.lst xs.reverse)) bk (.tup [.int n, .ref rv]) = H23 at s23 hbk3 R23 ⊢
    clear s22 hbk hrv hq hxs
    have hb := B21.ob.choose_spec
    have lr : rs.reverse.length = rs.length := List.length_reverse
    have rI : ∀ k ∈ yw, 0 ≤ k ∧ k < rs.reverse.length := by rw [lr]; exact FB.i1
    -- due = shown(back, bent.pairs, bent.posts, many)
    rw [e19]
    refine ⟨_, rfl, _, rfl, _, t.C_Posts, _, _, _, rfl, s23 _ _ hb, TT.cl_Posts, TT.n_Posts_pairs, pflds_pairs _ _, _, rfl, _, t.C_Posts, _, _, _, rfl, s23 _ _ hb, TT.cl_Posts, TT.n_Posts_posts, pflds_posts _ _, _, rfl, bk, rv, bp, bq, n, rs.reverse, yw, yc, m, rfl, hbk3, R23, by omega, s23 _ _ B21.ks, s23 _ _ B21.vs, rI, FB.l1, fun H24 s24 => ?_⟩
    have s24' := s23.trans s24
    -- bent.shows(Tree(back[0], back[1]), many) != due
    rw [e20]
    refine ⟨_, rfl, b, _, _, rfl, s24' _ _ hb, pflds_noshows _ _, rd0 rfl (s24 _ _ hbk3) (rd1 rfl (s24 _ _ hbk3) fun y dy hy hdy hyne => ?_)⟩
    have s25 : Same H24 (upd (upd H24 dy (.own y)) y (.ins t.C_Tree dy [])) := (same_new hdy).trans (same_new (by rw [upd_ne hyne.symm]; exact hy))
    refine ⟨y, dy, rv, n, rs.reverse, rfl, upd_same, (R23.keep s24).keep s25, ⟨n1, n2, Tree.back W⟩, fun yq H25 hyq Ty kp => ⟨rfl, ?_⟩⟩
    have s26 : Same H21 H25 := s24'.trans fun c o e => kp _ _ (s25 _ _ e) (ne_of_none e hy)
    clear kp s25 hyq hy hdy hyne s24' s24 hbk3 R23 s23
    refine ⟨_, rfl, b, bp, bq, y, yq, yw, yc, n, rs.reverse, m, rfl, B21.keep s26, Ty, rI, FB.i2, FB.l1, FB.l2, fun H27 s27 => ⟨_, rfl, rfl, ?_⟩⟩
    have ed : (!decide (V.bl (postedM rs.reverse yw yc m) = V.bl (postedM rs.reverse yw yc m))) = false := by simp
    rw [ed]
    refine ⟨_, rfl, iteF ?_⟩
    have s28 := s21.trans (s26.trans s27)
    have k28 := k20.same s28
    have W28 := W20.keep s28
    clear s28 s26 s27 s21 Ty B21 B20 S21 S20 k20 W20 hb lr rI ed
    -- found.pairs.clear(), found.posts.clear()
    have M : Mk t.C_Posts (fun _ => none) H27 fx fp fq ks ps := ⟨W28, fun _ _ e => (by cases e), rfl, rfl, fpq⟩
    rw [e21]
    refine ⟨_, rfl, _, t.C_Posts, _, _, _, rfl, M.at_.ob.choose_spec, TT.cl_Posts, TT.n_Posts_pairs, pflds_pairs _ _, .inl ⟨rfl, _, SqL.of M.at_.ks⟩, _, _, rfl, rfl, M.at_.ks, ?_⟩
    have M1 := M.put1 []
    have k29 := k28.put (o := .lst []) fp0 W28.ks
    rw [e22]
    refine ⟨_, rfl, _, t.C_Posts, _, _, _, rfl, M1.at_.ob.choose_spec, TT.cl_Posts, TT.n_Posts_posts, pflds_posts _ _, .inl ⟨rfl, _, SqL.of M1.at_.vs⟩, _, _, rfl, rfl, M1.at_.vs, ?_⟩
    have M2 := M1.put2 []
    have k30 := k29.put (o := .lst []) fq0 M1.at_.vs
    rw [e23]
    refine rdEnd TT rfl rfl rfl (S2.keepL k30) M2.at_ fun H31 s31 => ⟨_, rfl, iteF ?_⟩
    exact ⟨st11, k30.same s31⟩
  · rintro σ H8 _
    rw [e24]
    exact k H8
theorem ok_law (TT : Txt K mg t) (LB : LamB base mg t) : FnOk P w K mg base CX0 8 t.f_law t.d_law ["_law_script"] (spLaw K t.P_paired t.P_paired) := by
  refine TT.F_law.ok sc_law (fun vs H Q E h => ?_) (fun cdv A outer sh H vs Q E hr h => ?_)
  · obtain ⟨a, ns, rfl, _⟩ := h
    rfl
  · obtain ⟨a, ns, rfl, hS, hlen, hP1, hP2, k⟩ := h
    have hu8 := hu8_of hr
    refine ⟨_, (pss_cons (ps_set (i := 1) sc_law.nd rfl (Or.inl rfl) (pe_call (ok__law_told TT) (hr.mono (by decide)) rfl TT.m__law_told TT.F__law_told.kp TT.b__law_told .nil pass0 (pa_cons (pv 0) (pa_consC pe_int (pa_consC pe_int pa_nil))))) (pss_cons (ps_set (i := 2) sc_law.nd rfl (Or.inl rfl) (pe_make TT.M_Tree (ok_Tree_init TT) (hr.mono (by decide)) rfl TT.m_Tree TT.b_Tree_init .nil pass0 (pa_cons (pe_ix ix_tup (pv 1) pe_int (fun _ _ => rfl)) (pa_cons (pe_ix ix_tup (pv 1) pe_int (fun _ _ => rfl)) pa_nil)))) (pss_cons (ps_for PassesOwn.never rfl (pi_range1 rfl TT.z_range (pa_consC pe_int pa_nil)) (pg_name (i := 3) sc_law.nd rfl (Or.inl rfl)) (pss_cons (ps_set (i := 4) sc_law.nd rfl (Or.inl rfl) (pe_call (ok_paired TT LB) (hr.mono (by decide)) rfl TT.m_paired TT.F_paired.kp TT.b_paired .nil pass0 (pa_cons (pv 2) pa_nil))) (pss_cons (ps_if (PW.pt (pw_or (pt_not (pt_val (pe_callB call_isinstO rfl TT.z_isinstance WB.bt_isinstance (pa_cons (pv 4) (pa_cons (pe_glob (v := .ref t.C_Posts) rfl TT.m_Posts rfl) pa_nil))))) (pw_or (pt_not (pt_val (pe_callB call_isinstO rfl TT.z_isinstance WB.bt_isinstance (pa_cons (pv 4) (pa_cons (pe_glob (v := .ref t.C_Answer) rfl TT.m_Answer rfl) pa_nil))))) (pw_or1 (pt_val (pe_callB call_isinstO rfl TT.z_isinstance WB.bt_isinstance (pa_cons (pv 4) (pa_cons (pe_glob (v := .ref t.C_Wells) rfl TT.m_Wells rfl) pa_nil)))))))) (pss_one (ps_ret pe_bl)) pss_nil) (pss_cons (ps_if (PW.pt (pw_or (pt_not (pt_val (pe_call (ok__law_rising TT) (hr.mono (by decide)) rfl TT.m__law_rising TT.F__law_rising.kp TT.b__law_rising .nil pass0 (pa_cons (pe_fld (pv 4) rfl) (pa_consB (pe_op op_sub (pe_ix ix_tup (pv 1) pe_int (fun _ _ => rfl)) pe_int) pa_nil))))) (pw_or1 (pt_not (pt_val (pe_call (ok__law_rising TT) (hr.mono (by decide)) rfl TT.m__law_rising TT.F__law_rising.kp TT.b__law_rising .nil pass0 (pa_cons (pe_fld (pv 4) rfl) (pa_cons (pe_ix ix_tup (pv 1) pe_int (fun _ _ => rfl)) pa_nil)))))))) (pss_one (ps_ret pe_bl)) pss_nil) (pss_cons (ps_set (i := 5) sc_law.nd rfl (Or.inl rfl) (pe_callB call_len_seq rfl TT.z_len WB.bt_len (pa_cons (pe_fld (pv 4) rfl) pa_nil))) (pss_cons (ps_if (PW.pt (pw_or (pt_not (pt_val (pe_call (ok__law_shown TT) (hr.mono (by decide)) rfl TT.m__law_shown TT.F__law_shown.kp TT.b__law_shown .nil pass0 (pa_cons (pv 1) (pa_cons (pe_fld (pv 4) rfl) (pa_cons (pe_fld (pv 4) rfl) (pa_cons (pv 5) pa_nil))))))) (pw_or1 (pt_cmp (pc_notB (pe_meth (pv 4) TT.cl_Posts TT.M_Posts_shows (ok_Posts_shows TT) (hr.mono (by decide)) TT.b_Posts_shows .nil pass0 (pa_cons (pv 2) (pa_cons (pv 5) pa_nil)))))))) (pss_one (ps_ret pe_bl)) pss_nil) (pss_cons (ps_if (pt_cmp (pc_notB (pe_meth (pv 4) TT.cl_Posts TT.M_Posts_shows (ok_Posts_shows TT) (hr.mono (by decide)) TT.b_Posts_shows .nil pass0 (pa_cons (pv 2) (pa_consB (pe_op op_add (pv 5) pe_int) pa_nil))))) (pss_one (ps_ret pe_bl)) pss_nil) (pss_cons (ps_if (pt_not (pt_val (pe_call (ok__law_changed_right TT) (hr.mono (by decide)) rfl TT.m__law_changed_right TT.F__law_changed_right.kp TT.b__law_changed_right .nil pass0 (pa_cons (pv 1) (pa_cons (pv 2) (pa_cons (pv 4) (pa_consB (pe_op op_mod (pe_op op_fdiv (pe_call (ok__law_cell_at TT) (hr.mono (by decide)) rfl TT.m__law_cell_at TT.F__law_cell_at.kp TT.b__law_cell_at .nil pass0 (pa_cons (pv 0) (pa_consC pe_int pa_nil))) pe_int) (pe_ix ix_tup (pv 1) pe_int (fun _ _ => rfl))) pa_nil))))))) (pss_one (ps_ret pe_bl)) pss_nil) (pss_cons (ps_set (i := 6) sc_law.nd rfl (Or.inl rfl) (pe_call (ok__law_bent TT) (hr.mono (by decide)) rfl TT.m__law_bent TT.F__law_bent.kp TT.b__law_bent .nil pass0 (pa_cons (pe_fld (pv 4) rfl) (pa_cons (pe_call (ok__law_cell_at TT) (hr.mono (by decide)) rfl TT.m__law_cell_at TT.F__law_cell_at.kp TT.b__law_cell_at .nil pass0 (pa_cons (pv 0) (pa_consC pe_int pa_nil))) (pa_consB (pe_op op_sub (pe_ix ix_tup (pv 1) pe_int (fun _ _ => rfl)) pe_int) pa_nil))))) (pss_cons (ps_set (i := 7) sc_law.nd rfl (Or.inl rfl) (pe_call (ok__law_bent TT) (hr.mono (by decide)) rfl TT.m__law_bent TT.F__law_bent.kp TT.b__law_bent .nil pass0 (pa_cons (pe_fld (pv 4) rfl) (pa_cons (pe_call (ok__law_cell_at TT) (hr.mono (by decide)) rfl TT.m__law_cell_at TT.F__law_cell_at.kp TT.b__law_cell_at .nil pass0 (pa_cons (pv 0) (pa_consC pe_int pa_nil))) (pa_cons (pe_ix ix_tup (pv 1) pe_int (fun _ _ => rfl)) pa_nil))))) (pss_cons (ps_set (i := 5) sc_law.nd rfl (Or.inl rfl) (pe_callB call_len_seq rfl TT.z_len WB.bt_len (pa_cons (pe_ix ix_list (pe_lst (pa_cons (pv 6) (pa_cons (pv 7) pa_nil))) (pe_op op_mod (pe_call (ok__law_cell_at TT) (hr.mono (by decide)) rfl TT.m__law_cell_at TT.F__law_cell_at.kp TT.b__law_cell_at .nil pass0 (pa_cons (pv 0) (pa_consC pe_int pa_nil))) pe_int) (fun _ _ => rfl)) pa_nil))) (pss_cons (ps_set (i := 8) sc_law.nd rfl (Or.inl rfl) (pe_call (ok__law_shown TT) (hr.mono (by decide)) rfl TT.m__law_shown TT.F__law_shown.kp TT.b__law_shown .nil pass0 (pa_cons (pv 1) (pa_cons (pv 6) (pa_cons (pv 7) (pa_cons (pv 5) pa_nil)))))) (pss_cons (ps_set (i := 9) sc_law.nd rfl (Or.inl rfl) (pe_make TT.M_Posts (ok_Posts_init TT) (hr.mono (by decide)) rfl TT.m_Posts TT.b_Posts_init .nil pass0 (pa_cons (pv 6) (pa_cons (pv 7) pa_nil)))) (pss_cons (ps_expr (pe_bm0 PySem.F.plainAttrs_list PySem.F.slot_list_clear PySem.F.type_list_clear mt_clear (pv 6))) (pss_cons (ps_expr (pe_bm0 PySem.F.plainAttrs_list PySem.F.slot_list_clear PySem.F.type_list_clear mt_clear (pv 7))) (pss_cons (ps_if (pt_not (pt_val (pe_call (ok__law_says TT) (hr.mono (by decide)) rfl TT.m__law_says TT.F__law_says.kp TT.b__law_says .nil pass0 (pa_cons (pv 9) (pa_cons (pv 2) (pa_cons (pv 5) (pa_cons (pv 8) pa_nil))))))) (pss_one (ps_ret pe_bl)) pss_nil) (pss_cons (ps_set (i := 10) sc_law.nd rfl (Or.inl rfl) (pe_tup (pa_cons (pe_ix ix_tup (pv 1) pe_int (fun _ _ => rfl)) (pa_cons (pe_revX (pe_ix ix_tup (pv 1) pe_int (fun _ _ => rfl))) pa_nil)))) (pss_cons (ps_set (i := 8) sc_law.nd rfl (Or.inl rfl) (pe_call (ok__law_shown TT) (hr.mono (by decide)) rfl TT.m__law_shown TT.F__law_shown.kp TT.b__law_shown .nil pass0 (pa_cons (pv 10) (pa_cons (pe_fld (pv 9) rfl) (pa_cons (pe_fld (pv 9) rfl) (pa_cons (pv 5) pa_nil)))))) (pss_cons (ps_if (pt_cmpR op_ne (pe_meth (pv 9) TT.cl_Posts TT.M_Posts_shows (ok_Posts_shows TT) (hr.mono (by decide)) TT.b_Posts_shows .nil pass0 (pa_cons (pe_make TT.M_Tree (ok_Tree_init TT) (hr.mono (by decide)) rfl TT.m_Tree TT.b_Tree_init .nil pass0 (pa_cons (pe_ix ix_tup (pv 10) pe_int (fun _ _ => rfl)) (pa_cons (pe_ix ix_tup (pv 10) pe_int (fun _ _ => rfl)) pa_nil))) (pa_cons (pv 5) pa_nil))) (pv 8) (nomark _)) (pss_one (ps_ret pe_bl)) pss_nil) (pss_cons (ps_expr (pe_bm0 PySem.F.plainAttrs_list PySem.F.slot_list_clear PySem.F.type_list_clear mt_clear (pe_fld (pv 4) rfl))) (pss_cons (ps_expr (pe_bm0 PySem.F.plainAttrs_list PySem.F.slot_list_clear PySem.F.type_list_clear mt_clear (pe_fld (pv 4) rfl))) (pss_one (ps_if (pt_not (pt_val (pe_call (ok__law_says TT) (hr.mono (by decide)) rfl TT.m__law_says TT.F__law_says.kp TT.b__law_says .nil pass0 (pa_cons (pv 4) (pa_cons (pv 2) (pa_consC pe_int (pa_cons (pe_cmpR (op_eqD (k := 8) hu8) (pe_ix ix_tup (pv 1) pe_int (fun _ _ => rfl)) (pe_lst pa_nil) (nomark _)) pa_nil))))))) (pss_one (ps_ret pe_bl)) pss_nil))))))))))))))))))))))) (pss_one (ps_ret pe_bl))))), ?_⟩
    exact law_read TT hS hP1 k rfl rfl rfl rfl rfl rfl rfl rfl rfl rfl rfl rfl rfl rfl rfl rfl rfl rfl rfl rfl rfl rfl rfl rfl
end
end WR
namespace WR
open PySem L2
theorem kitCls_of {K : PySem.W.Frag} {t : Value} {C : Addr} {b : Bool} (h : PySem.W.isClsIn K C = true) (y : PySem.W.typeIn K (.ref C) = some (.type "type")) (e : PySem.W.subIn K t (.ref C) = some b) : PySem.W.kitCls K t (.ref C) = some b := by
  have h : (PySem.W.clsIn K C).isSome = true := h
  unfold PySem.W.kitCls
  show (if _ = true then PySem.W.subIn K t (.ref C) else none) = _
  rw [h, y, if_pos (by rfl)]
  exact e
theorem list_len {α : Type} {n : Nat} {l : List α} (h : l.length = n + 1) : ∃ a r, l = a :: r ∧ r.length = n := by
  cases l with
  | nil => cases h
  | cons a r => exact ⟨a, r, rfl, Nat.succ.inj h⟩
theorem binds1 {K : PySem.W.Frag} {x qual a0 : Str} {st : Stmt} {f : Addr} {fd : FuncData} (F : Fun K x qual st f fd) (h : ∀ (kV doc pm : Value) (an : Option Addr) (cdv ct u0 : Value), bindArgs (PySem.W.fnOf x qual (defArgs st) (defBody st) (defScope st) .none kV doc pm an cdv ct) ⟨[u0], []⟩ = pure [(a0, u0)]) : Binds K fd [a0] [] := by
  refine F.binds (ps := [a0]) fun kV doc pm an cdv ct us hl => ?_
  obtain ⟨u0, r0, rfl, h0⟩ := list_len (n := 0) hl
  obtain rfl := List.eq_nil_of_length_eq_zero h0
  exact h kV doc pm an cdv ct u0
theorem binds2 {K : PySem.W.Frag} {x qual a0 a1 : Str} {st : Stmt} {f : Addr} {fd : FuncData} (F : Fun K x qual st f fd) (h : ∀ (kV doc pm : Value) (an : Option Addr) (cdv ct u0 u1 : Value), bindArgs (PySem.W.fnOf x qual (defArgs st) (defBody st) (defScope st) .none kV doc pm an cdv ct) ⟨[u0, u1], []⟩ = pure [(a0, u0), (a1, u1)]) : Binds K fd [a0, a1] [] := by
  refine F.binds (ps := [a0, a1]) fun kV doc pm an cdv ct us hl => ?_
  obtain ⟨u0, r0, rfl, h0⟩ := list_len (n := 1) hl
  obtain ⟨u1, r1, rfl, h1⟩ := list_len (n := 0) h0
  obtain rfl := List.eq_nil_of_length_eq_zero h1
  exact h kV doc pm an cdv ct u0 u1
theorem binds3 {K : PySem.W.Frag} {x qual a0 a1 a2 : Str} {st : Stmt} {f : Addr} {fd : FuncData} (F : Fun K x qual st f fd) (h : ∀ (kV doc pm : Value) (an : Option Addr) (cdv ct u0 u1 u2 : Value), bindArgs (PySem.W.fnOf x qual (defArgs st) (defBody st) (defScope st) .none kV doc pm an cdv ct) ⟨[u0, u1, u2], []⟩ = pure [(a0, u0), (a1, u1), (a2, u2)]) : Binds K fd [a0, a1, a2] [] := by
  refine F.binds (ps := [a0, a1, a2]) fun kV doc pm an cdv ct us hl => ?_
  obtain ⟨u0, r0, rfl, h0⟩ := list_len (n := 2) hl
  obtain ⟨u1, r1, rfl, h1⟩ := list_len (n := 1) h0
  obtain ⟨u2, r2, rfl, h2⟩ := list_len (n := 0) h1
  obtain rfl := List.eq_nil_of_length_eq_zero h2
  exact h kV doc pm an cdv ct u0 u1 u2
theorem binds4 {K : PySem.W.Frag} {x qual a0 a1 a2 a3 : Str} {st : Stmt} {f : Addr} {fd : FuncData} (F : Fun K x qual st f fd) (h : ∀ (kV doc pm : Value) (an : Option Addr) (cdv ct u0 u1 u2 u3 : Value), bindArgs (PySem.W.fnOf x qual (defArgs st) (defBody st) (defScope st) .none kV doc pm an cdv ct) ⟨[u0, u1, u2, u3], []⟩ = pure [(a0, u0), (a1, u1), (a2, u2), (a3, u3)]) : Binds K fd [a0, a1, a2, a3] [] := by
  refine F.binds (ps := [a0, a1, a2, a3]) fun kV doc pm an cdv ct us hl => ?_
  obtain ⟨u0, r0, rfl, h0⟩ := list_len (n := 3) hl
  obtain ⟨u1, r1, rfl, h1⟩ := list_len (n := 2) h0
  obtain ⟨u2, r2, rfl, h2⟩ := list_len (n := 1) h1
  obtain ⟨u3, r3, rfl, h3⟩ := list_len (n := 0) h2
  obtain rfl := List.eq_nil_of_length_eq_zero h3
  exact h kV doc pm an cdv ct u0 u1 u2 u3
theorem tabIn_of {K : PySem.W.Frag} {x qual : Str} {f c P : Addr} {oc kV dc pm ct oc2 : Value} {od an od2 : Option Addr} {sl sl2 : Array (Option Value)} {da : Arguments} {db : List Stmt} {ds : Scope} {vs : Array Value}
    (h1 : PySem.W.nsIn K mainGlobals x = some (some (.ref f))) (h2 : K.lookup f = some ⟨oc, od, .func (PySem.W.fnOf x qual da db ds .none kV dc pm an (.ref c) ct), sl⟩) (h3 : K.lookup c = some ⟨oc2, od2, .fields vs, sl2⟩) (h4 : vs[11]? = some (.ref P)) : PySem.W.tabIn K x = some (c, P) := by
  unfold PySem.W.tabIn
  rw [h1]
  dsimp only
  rw [h2]
  show (match K.lookup c with | some ⟨_, _, .fields vs, _⟩ => (match (vs[11]? : Option Value) with | some (.ref P) => some (c, P) | _ => none) | _ => none) = _
  rw [h3]
  dsimp only
  rw [h4]
theorem all_mk {l : PySem.W.OpenLaw} {w : World} {K : PySem.W.Frag} {h : Heap} {mg : Str → Option Value} {fa : Addr} (X : K.In h) (G : h.Ns mainGlobals mg) (hfa : mg "law" = some (.ref fa))
    {f_is_number : Addr} {oc_0 kV_0 dc_0 pm_0 cd_0 ct_0 : Value} {od_0 an_0 : Option Addr} {sl_0 : Array (Option Value)}
    {f_is_whole : Addr} {oc_1 kV_1 dc_1 pm_1 cd_1 ct_1 : Value} {od_1 an_1 : Option Addr} {sl_1 : Array (Option Value)}
    {f_are_below : Addr} {oc_2 kV_2 dc_2 pm_2 cd_2 ct_2 : Value} {od_2 an_2 : Option Addr} {sl_2 : Array (Option Value)}
    {f_is_road : Addr} {oc_3 kV_3 dc_3 pm_3 cd_3 ct_3 : Value} {od_3 an_3 : Option Addr} {sl_3 : Array (Option Value)}
    {f_is_tree : Addr} {oc_4 kV_4 dc_4 pm_4 cd_4 ct_4 : Value} {od_4 an_4 : Option Addr} {sl_4 : Array (Option Value)}
    {f_steps : Addr} {oc_5 kV_5 dc_5 pm_5 cd_5 ct_5 : Value} {od_5 an_5 : Option Addr} {sl_5 : Array (Option Value)}
    {f_reached : Addr} {oc_6 kV_6 dc_6 pm_6 cd_6 ct_6 : Value} {od_6 an_6 : Option Addr} {sl_6 : Array (Option Value)}
    {f_Tree_init : Addr} {oc_7 kV_7 dc_7 pm_7 cd_7 ct_7 : Value} {od_7 an_7 : Option Addr} {sl_7 : Array (Option Value)}
    {f_Tree_roads : Addr} {oc_8 kV_8 dc_8 pm_8 cd_8 ct_8 : Value} {od_8 an_8 : Option Addr} {sl_8 : Array (Option Value)}
    {f_distances_from : Addr} {oc_9 kV_9 dc_9 pm_9 cd_9 ct_9 : Value} {od_9 an_9 : Option Addr} {sl_9 : Array (Option Value)}
    {f_distances : Addr} {oc_10 kV_10 dc_10 pm_10 cd_10 ct_10 : Value} {od_10 an_10 : Option Addr} {sl_10 : Array (Option Value)}
    {f_Posts_init : Addr} {oc_11 kV_11 dc_11 pm_11 cd_11 ct_11 : Value} {od_11 an_11 : Option Addr} {sl_11 : Array (Option Value)}
    {f_Posts_shows : Addr} {oc_12 kV_12 dc_12 pm_12 cd_12 ct_12 : Value} {od_12 an_12 : Option Addr} {sl_12 : Array (Option Value)}
    {f_none_meet : Addr} {oc_13 kV_13 dc_13 pm_13 cd_13 ct_13 : Value} {od_13 an_13 : Option Addr} {sl_13 : Array (Option Value)}
    {f_all_posted : Addr} {oc_14 kV_14 dc_14 pm_14 cd_14 ct_14 : Value} {od_14 an_14 : Option Addr} {sl_14 : Array (Option Value)}
    {f_paired : Addr} {oc_15 kV_15 dc_15 pm_15 ct_15 : Value} {od_15 an_15 : Option Addr} {sl_15 : Array (Option Value)}
    {f_outer_length : Addr} {oc_16 kV_16 dc_16 pm_16 cd_16 ct_16 : Value} {od_16 an_16 : Option Addr} {sl_16 : Array (Option Value)}
    {f_inner_end : Addr} {oc_17 kV_17 dc_17 pm_17 cd_17 ct_17 : Value} {od_17 an_17 : Option Addr} {sl_17 : Array (Option Value)}
    {f__law_cell_at : Addr} {oc_18 kV_18 dc_18 pm_18 cd_18 ct_18 : Value} {od_18 an_18 : Option Addr} {sl_18 : Array (Option Value)}
    {f__law_draw : Addr} {oc_19 kV_19 dc_19 pm_19 cd_19 ct_19 : Value} {od_19 an_19 : Option Addr} {sl_19 : Array (Option Value)}
    {f__law_told : Addr} {oc_20 kV_20 dc_20 pm_20 cd_20 ct_20 : Value} {od_20 an_20 : Option Addr} {sl_20 : Array (Option Value)}
    {f__law_name : Addr} {oc_21 kV_21 dc_21 pm_21 cd_21 ct_21 : Value} {od_21 an_21 : Option Addr} {sl_21 : Array (Option Value)}
    {f__law_shown : Addr} {oc_22 kV_22 dc_22 pm_22 cd_22 ct_22 : Value} {od_22 an_22 : Option Addr} {sl_22 : Array (Option Value)}
    {f__law_rising : Addr} {oc_23 kV_23 dc_23 pm_23 cd_23 ct_23 : Value} {od_23 an_23 : Option Addr} {sl_23 : Array (Option Value)}
    {f__law_bent : Addr} {oc_24 kV_24 dc_24 pm_24 cd_24 ct_24 : Value} {od_24 an_24 : Option Addr} {sl_24 : Array (Option Value)}
    {f__law_says : Addr} {oc_25 kV_25 dc_25 pm_25 cd_25 ct_25 : Value} {od_25 an_25 : Option Addr} {sl_25 : Array (Option Value)}
    {f__law_changed_right : Addr} {oc_26 kV_26 dc_26 pm_26 cd_26 ct_26 : Value} {od_26 an_26 : Option Addr} {sl_26 : Array (Option Value)}
    {f_law : Addr} {oc_27 kV_27 dc_27 pm_27 cd_27 ct_27 : Value} {od_27 an_27 : Option Addr} {sl_27 : Array (Option Value)}
    {C_Tree : Addr}
    {C_Posts : Addr}
    {C_Answer : Addr}
    {C_Wells : Addr}
    {c_of_paired P_of_paired : Addr}
    {t_MOST_VILLAGES : Tok}
    {t_MOST_LENGTH : Tok}
    (aC_Tree : PySem.W.nsIn K mainGlobals "Tree" = some (some (.ref C_Tree)))
    (aC_Posts : PySem.W.nsIn K mainGlobals "Posts" = some (some (.ref C_Posts)))
    (aC_Answer : PySem.W.nsIn K mainGlobals "Answer" = some (some (.ref C_Answer)))
    (aC_Wells : PySem.W.nsIn K mainGlobals "Wells" = some (some (.ref C_Wells)))
    (a_is_number : PySem.W.nsIn K mainGlobals "is_number" = some (some (.ref f_is_number)))
    (l_is_number : K.lookup f_is_number = some ⟨oc_0, od_0, .func (PySem.W.fnOf "is_number" "is_number" (defArgs s_is_number) (defBody s_is_number) (defScope s_is_number) .none kV_0 dc_0 pm_0 an_0 cd_0 ct_0), sl_0⟩)
    (c_is_number : PySem.W.codeIn K cd_0 "is_number" = true)
    (k_is_number : PySem.W.keepIn K (.ref f_is_number) = true)
    (a_is_whole : PySem.W.nsIn K mainGlobals "is_whole" = some (some (.ref f_is_whole)))
    (l_is_whole : K.lookup f_is_whole = some ⟨oc_1, od_1, .func (PySem.W.fnOf "is_whole" "is_whole" (defArgs s_is_whole) (defBody s_is_whole) (defScope s_is_whole) .none kV_1 dc_1 pm_1 an_1 cd_1 ct_1), sl_1⟩)
    (c_is_whole : PySem.W.codeIn K cd_1 "is_whole" = true)
    (k_is_whole : PySem.W.keepIn K (.ref f_is_whole) = true)
    (a_are_below : PySem.W.nsIn K mainGlobals "are_below" = some (some (.ref f_are_below)))
    (l_are_below : K.lookup f_are_below = some ⟨oc_2, od_2, .func (PySem.W.fnOf "are_below" "are_below" (defArgs s_are_below) (defBody s_are_below) (defScope s_are_below) .none kV_2 dc_2 pm_2 an_2 cd_2 ct_2), sl_2⟩)
    (c_are_below : PySem.W.codeIn K cd_2 "are_below" = true)
    (k_are_below : PySem.W.keepIn K (.ref f_are_below) = true)
    (a_is_road : PySem.W.nsIn K mainGlobals "is_road" = some (some (.ref f_is_road)))
    (l_is_road : K.lookup f_is_road = some ⟨oc_3, od_3, .func (PySem.W.fnOf "is_road" "is_road" (defArgs s_is_road) (defBody s_is_road) (defScope s_is_road) .none kV_3 dc_3 pm_3 an_3 cd_3 ct_3), sl_3⟩)
    (c_is_road : PySem.W.codeIn K cd_3 "is_road" = true)
    (k_is_road : PySem.W.keepIn K (.ref f_is_road) = true)
    (a_is_tree : PySem.W.nsIn K mainGlobals "is_tree" = some (some (.ref f_is_tree)))
    (l_is_tree : K.lookup f_is_tree = some ⟨oc_4, od_4, .func (PySem.W.fnOf "is_tree" "is_tree" (defArgs s_is_tree) (defBody s_is_tree) (defScope s_is_tree) .none kV_4 dc_4 pm_4 an_4 cd_4 ct_4), sl_4⟩)
    (c_is_tree : PySem.W.codeIn K cd_4 "is_tree" = true)
    (k_is_tree : PySem.W.keepIn K (.ref f_is_tree) = true)
    (a_steps : PySem.W.nsIn K mainGlobals "steps" = some (some (.ref f_steps)))
    (l_steps : K.lookup f_steps = some ⟨oc_5, od_5, .func (PySem.W.fnOf "steps" "steps" (defArgs s_steps) (defBody s_steps) (defScope s_steps) .none kV_5 dc_5 pm_5 an_5 cd_5 ct_5), sl_5⟩)
    (c_steps : PySem.W.codeIn K cd_5 "steps" = true)
    (k_steps : PySem.W.keepIn K (.ref f_steps) = true)
    (a_reached : PySem.W.nsIn K mainGlobals "reached" = some (some (.ref f_reached)))
    (l_reached : K.lookup f_reached = some ⟨oc_6, od_6, .func (PySem.W.fnOf "reached" "reached" (defArgs s_reached) (defBody s_reached) (defScope s_reached) .none kV_6 dc_6 pm_6 an_6 cd_6 ct_6), sl_6⟩)
    (c_reached : PySem.W.codeIn K cd_6 "reached" = true)
    (k_reached : PySem.W.keepIn K (.ref f_reached) = true)
    (a_Tree_init : PySem.W.findIn K (.ref C_Tree) "__init__" = some (some (.ref f_Tree_init)))
    (i_Tree_init : PySem.W.isFn K (.ref f_Tree_init) = true)
    (l_Tree_init : K.lookup f_Tree_init = some ⟨oc_7, od_7, .func (PySem.W.fnOf "__init__" "Tree.__init__" (defArgs s_Tree_init) (defBody s_Tree_init) (defScope s_Tree_init) .none kV_7 dc_7 pm_7 an_7 cd_7 ct_7), sl_7⟩)
    (c_Tree_init : PySem.W.codeIn K cd_7 "Tree.__init__" = true)
    (k_Tree_init : PySem.W.keepIn K (.ref f_Tree_init) = true)
    (a_Tree_roads : PySem.W.findIn K (.ref C_Tree) "roads" = some (some (.ref f_Tree_roads)))
    (i_Tree_roads : PySem.W.isFn K (.ref f_Tree_roads) = true)
    (l_Tree_roads : K.lookup f_Tree_roads = some ⟨oc_8, od_8, .func (PySem.W.fnOf "roads" "Tree.roads" (defArgs s_Tree_roads) (defBody s_Tree_roads) (defScope s_Tree_roads) .none kV_8 dc_8 pm_8 an_8 cd_8 ct_8), sl_8⟩)
    (c_Tree_roads : PySem.W.codeIn K cd_8 "Tree.roads" = true)
    (k_Tree_roads : PySem.W.keepIn K (.ref f_Tree_roads) = true)
    (a_distances_from : PySem.W.nsIn K mainGlobals "distances_from" = some (some (.ref f_distances_from)))
    (l_distances_from : K.lookup f_distances_from = some ⟨oc_9, od_9, .func (PySem.W.fnOf "distances_from" "distances_from" (defArgs s_distances_from) (defBody s_distances_from) (defScope s_distances_from) .none kV_9 dc_9 pm_9 an_9 cd_9 ct_9), sl_9⟩)
    (c_distances_from : PySem.W.codeIn K cd_9 "distances_from" = true)
    (k_distances_from : PySem.W.keepIn K (.ref f_distances_from) = true)
    (a_distances : PySem.W.nsIn K mainGlobals "distances" = some (some (.ref f_distances)))
    (l_distances : K.lookup f_distances = some ⟨oc_10, od_10, .func (PySem.W.fnOf "distances" "distances" (defArgs s_distances) (defBody s_distances) (defScope s_distances) .none kV_10 dc_10 pm_10 an_10 cd_10 ct_10), sl_10⟩)
    (c_distances : PySem.W.codeIn K cd_10 "distances" = true)
    (k_distances : PySem.W.keepIn K (.ref f_distances) = true)
    (a_Posts_init : PySem.W.findIn K (.ref C_Posts) "__init__" = some (some (.ref f_Posts_init)))
    (i_Posts_init : PySem.W.isFn K (.ref f_Posts_init) = true)
    (l_Posts_init : K.lookup f_Posts_init = some ⟨oc_11, od_11, .func (PySem.W.fnOf "__init__" "Posts.__init__" (defArgs s_Posts_init) (defBody s_Posts_init) (defScope s_Posts_init) .none kV_11 dc_11 pm_11 an_11 cd_11 ct_11), sl_11⟩)
    (c_Posts_init : PySem.W.codeIn K cd_11 "Posts.__init__" = true)
    (k_Posts_init : PySem.W.keepIn K (.ref f_Posts_init) = true)
    (a_Posts_shows : PySem.W.findIn K (.ref C_Posts) "shows" = some (some (.ref f_Posts_shows)))
    (i_Posts_shows : PySem.W.isFn K (.ref f_Posts_shows) = true)
    (l_Posts_shows : K.lookup f_Posts_shows = some ⟨oc_12, od_12, .func (PySem.W.fnOf "shows" "Posts.shows" (defArgs s_Posts_shows) (defBody s_Posts_shows) (defScope s_Posts_shows) .none kV_12 dc_12 pm_12 an_12 cd_12 ct_12), sl_12⟩)
    (c_Posts_shows : PySem.W.codeIn K cd_12 "Posts.shows" = true)
    (k_Posts_shows : PySem.W.keepIn K (.ref f_Posts_shows) = true)
    (a_none_meet : PySem.W.nsIn K mainGlobals "none_meet" = some (some (.ref f_none_meet)))
    (l_none_meet : K.lookup f_none_meet = some ⟨oc_13, od_13, .func (PySem.W.fnOf "none_meet" "none_meet" (defArgs s_none_meet) (defBody s_none_meet) (defScope s_none_meet) .none kV_13 dc_13 pm_13 an_13 cd_13 ct_13), sl_13⟩)
    (c_none_meet : PySem.W.codeIn K cd_13 "none_meet" = true)
    (k_none_meet : PySem.W.keepIn K (.ref f_none_meet) = true)
    (a_all_posted : PySem.W.nsIn K mainGlobals "all_posted" = some (some (.ref f_all_posted)))
    (l_all_posted : K.lookup f_all_posted = some ⟨oc_14, od_14, .func (PySem.W.fnOf "all_posted" "all_posted" (defArgs s_all_posted) (defBody s_all_posted) (defScope s_all_posted) .none kV_14 dc_14 pm_14 an_14 cd_14 ct_14), sl_14⟩)
    (c_all_posted : PySem.W.codeIn K cd_14 "all_posted" = true)
    (k_all_posted : PySem.W.keepIn K (.ref f_all_posted) = true)
    (a_paired : PySem.W.nsIn K mainGlobals "paired" = some (some (.ref f_paired)))
    (l_paired : K.lookup f_paired = some ⟨oc_15, od_15, .func (PySem.W.fnOf "paired" "paired" (defArgs s_paired) (defBody s_paired) (defScope s_paired) .none kV_15 dc_15 pm_15 an_15 (.ref c_of_paired) ct_15), sl_15⟩)
    (c_paired : PySem.W.codeIn K (.ref c_of_paired) "paired" = true)
    (k_paired : PySem.W.keepIn K (.ref f_paired) = true)
    (a_outer_length : PySem.W.nsIn K mainGlobals "outer_length" = some (some (.ref f_outer_length)))
    (l_outer_length : K.lookup f_outer_length = some ⟨oc_16, od_16, .func (PySem.W.fnOf "outer_length" "outer_length" (defArgs s_outer_length) (defBody s_outer_length) (defScope s_outer_length) .none kV_16 dc_16 pm_16 an_16 cd_16 ct_16), sl_16⟩)
    (c_outer_length : PySem.W.codeIn K cd_16 "outer_length" = true)
    (k_outer_length : PySem.W.keepIn K (.ref f_outer_length) = true)
    (a_inner_end : PySem.W.nsIn K mainGlobals "inner_end" = some (some (.ref f_inner_end)))
    (l_inner_end : K.lookup f_inner_end = some ⟨oc_17, od_17, .func (PySem.W.fnOf "inner_end" "inner_end" (defArgs s_inner_end) (defBody s_inner_end) (defScope s_inner_end) .none kV_17 dc_17 pm_17 an_17 cd_17 ct_17), sl_17⟩)
    (c_inner_end : PySem.W.codeIn K cd_17 "inner_end" = true)
    (k_inner_end : PySem.W.keepIn K (.ref f_inner_end) = true)
    (a__law_cell_at : PySem.W.nsIn K mainGlobals "_law_cell_at" = some (some (.ref f__law_cell_at)))
    (l__law_cell_at : K.lookup f__law_cell_at = some ⟨oc_18, od_18, .func (PySem.W.fnOf "_law_cell_at" "_law_cell_at" (defArgs s__law_cell_at) (defBody s__law_cell_at) (defScope s__law_cell_at) .none kV_18 dc_18 pm_18 an_18 cd_18 ct_18), sl_18⟩)
    (c__law_cell_at : PySem.W.codeIn K cd_18 "_law_cell_at" = true)
    (k__law_cell_at : PySem.W.keepIn K (.ref f__law_cell_at) = true)
    (a__law_draw : PySem.W.nsIn K mainGlobals "_law_draw" = some (some (.ref f__law_draw)))
    (l__law_draw : K.lookup f__law_draw = some ⟨oc_19, od_19, .func (PySem.W.fnOf "_law_draw" "_law_draw" (defArgs s__law_draw) (defBody s__law_draw) (defScope s__law_draw) .none kV_19 dc_19 pm_19 an_19 cd_19 ct_19), sl_19⟩)
    (c__law_draw : PySem.W.codeIn K cd_19 "_law_draw" = true)
    (k__law_draw : PySem.W.keepIn K (.ref f__law_draw) = true)
    (a__law_told : PySem.W.nsIn K mainGlobals "_law_told" = some (some (.ref f__law_told)))
    (l__law_told : K.lookup f__law_told = some ⟨oc_20, od_20, .func (PySem.W.fnOf "_law_told" "_law_told" (defArgs s__law_told) (defBody s__law_told) (defScope s__law_told) .none kV_20 dc_20 pm_20 an_20 cd_20 ct_20), sl_20⟩)
    (c__law_told : PySem.W.codeIn K cd_20 "_law_told" = true)
    (k__law_told : PySem.W.keepIn K (.ref f__law_told) = true)
    (a__law_name : PySem.W.nsIn K mainGlobals "_law_name" = some (some (.ref f__law_name)))
    (l__law_name : K.lookup f__law_name = some ⟨oc_21, od_21, .func (PySem.W.fnOf "_law_name" "_law_name" (defArgs s__law_name) (defBody s__law_name) (defScope s__law_name) .none kV_21 dc_21 pm_21 an_21 cd_21 ct_21), sl_21⟩)
    (c__law_name : PySem.W.codeIn K cd_21 "_law_name" = true)
    (k__law_name : PySem.W.keepIn K (.ref f__law_name) = true)
    (a__law_shown : PySem.W.nsIn K mainGlobals "_law_shown" = some (some (.ref f__law_shown)))
    (l__law_shown : K.lookup f__law_shown = some ⟨oc_22, od_22, .func (PySem.W.fnOf "_law_shown" "_law_shown" (defArgs s__law_shown) (defBody s__law_shown) (defScope s__law_shown) .none kV_22 dc_22 pm_22 an_22 cd_22 ct_22), sl_22⟩)
    (c__law_shown : PySem.W.codeIn K cd_22 "_law_shown" = true)
    (k__law_shown : PySem.W.keepIn K (.ref f__law_shown) = true)
    (a__law_rising : PySem.W.nsIn K mainGlobals "_law_rising" = some (some (.ref f__law_rising)))
    (l__law_rising : K.lookup f__law_rising = some ⟨oc_23, od_23, .func (PySem.W.fnOf "_law_rising" "_law_rising" (defArgs s__law_rising) (defBody s__law_rising) (defScope s__law_rising) .none kV_23 dc_23 pm_23 an_23 cd_23 ct_23), sl_23⟩)
    (c__law_rising : PySem.W.codeIn K cd_23 "_law_rising" = true)
    (k__law_rising : PySem.W.keepIn K (.ref f__law_rising) = true)
    (a__law_bent : PySem.W.nsIn K mainGlobals "_law_bent" = some (some (.ref f__law_bent)))
    (l__law_bent : K.lookup f__law_bent = some ⟨oc_24, od_24, .func (PySem.W.fnOf "_law_bent" "_law_bent" (defArgs s__law_bent) (defBody s__law_bent) (defScope s__law_bent) .none kV_24 dc_24 pm_24 an_24 cd_24 ct_24), sl_24⟩)
    (c__law_bent : PySem.W.codeIn K cd_24 "_law_bent" = true)
    (k__law_bent : PySem.W.keepIn K (.ref f__law_bent) = true)
    (a__law_says : PySem.W.nsIn K mainGlobals "_law_says" = some (some (.ref f__law_says)))
    (l__law_says : K.lookup f__law_says = some ⟨oc_25, od_25, .func (PySem.W.fnOf "_law_says" "_law_says" (defArgs s__law_says) (defBody s__law_says) (defScope s__law_says) .none kV_25 dc_25 pm_25 an_25 cd_25 ct_25), sl_25⟩)
    (c__law_says : PySem.W.codeIn K cd_25 "_law_says" = true)
    (k__law_says : PySem.W.keepIn K (.ref f__law_says) = true)
    (a__law_changed_right : PySem.W.nsIn K mainGlobals "_law_changed_right" = some (some (.ref f__law_changed_right)))
    (l__law_changed_right : K.lookup f__law_changed_right = some ⟨oc_26, od_26, .func (PySem.W.fnOf "_law_changed_right" "_law_changed_right" (defArgs s__law_changed_right) (defBody s__law_changed_right) (defScope s__law_changed_right) .none kV_26 dc_26 pm_26 an_26 cd_26 ct_26), sl_26⟩)
    (c__law_changed_right : PySem.W.codeIn K cd_26 "_law_changed_right" = true)
    (k__law_changed_right : PySem.W.keepIn K (.ref f__law_changed_right) = true)
    (a_law : PySem.W.nsIn K mainGlobals "law" = some (some (.ref f_law)))
    (l_law : K.lookup f_law = some ⟨oc_27, od_27, .func (PySem.W.fnOf "law" "law" (defArgs s_law) (defBody s_law) (defScope s_law) .none kV_27 dc_27 pm_27 an_27 cd_27 ct_27), sl_27⟩)
    (c_law : PySem.W.codeIn K cd_27 "law" = true)
    (k_law : PySem.W.keepIn K (.ref f_law) = true)
    (pg_Tree : PySem.W.plainGet K C_Tree Str.empty = true)
    (hd_Tree : PySem.W.hasDictIn K C_Tree = true)
    (po_Tree : PySem.W.plainOver K C_Tree = true)
    (sa_Tree : PySem.W.findIn K (.ref C_Tree) "__setattr__" = some (some (.builtin "object.__setattr__")))
    (mk_Tree : PySem.W.makesIn K C_Tree = true)
    (kc_Tree : PySem.W.keepIn K (.ref C_Tree) = true)
    (nA_Tree_road_list : PySem.W.findIn K (.ref C_Tree) "road_list" = some none)
    (nA_Tree_size : PySem.W.findIn K (.ref C_Tree) "size" = some none)
    (pg_Posts : PySem.W.plainGet K C_Posts Str.empty = true)
    (hd_Posts : PySem.W.hasDictIn K C_Posts = true)
    (po_Posts : PySem.W.plainOver K C_Posts = true)
    (sa_Posts : PySem.W.findIn K (.ref C_Posts) "__setattr__" = some (some (.builtin "object.__setattr__")))
    (mk_Posts : PySem.W.makesIn K C_Posts = true)
    (kc_Posts : PySem.W.keepIn K (.ref C_Posts) = true)
    (nA_Posts_pairs : PySem.W.findIn K (.ref C_Posts) "pairs" = some none)
    (nA_Posts_posts : PySem.W.findIn K (.ref C_Posts) "posts" = some none)
    (z_ValueError : PySem.W.nsIn K mainGlobals "ValueError" = some none)
    (z_all : PySem.W.nsIn K mainGlobals "all" = some none)
    (z_bool : PySem.W.nsIn K mainGlobals "bool" = some none)
    (z_int : PySem.W.nsIn K mainGlobals "int" = some none)
    (z_isinstance : PySem.W.nsIn K mainGlobals "isinstance" = some none)
    (z_len : PySem.W.nsIn K mainGlobals "len" = some none)
    (z_list : PySem.W.nsIn K mainGlobals "list" = some none)
    (z_max : PySem.W.nsIn K mainGlobals "max" = some none)
    (z_min : PySem.W.nsIn K mainGlobals "min" = some none)
    (z_range : PySem.W.nsIn K mainGlobals "range" = some none)
    (z_set : PySem.W.nsIn K mainGlobals "set" = some none)
    (z_sorted : PySem.W.nsIn K mainGlobals "sorted" = some none)
    (z_tuple : PySem.W.nsIn K mainGlobals "tuple" = some none)
    (ya_Posts : PySem.W.findIn K (.ref C_Posts) "__class__" = some (some (.builtin "object.__class__")))
    (yn_Posts : PySem.W.specialIn K (.builtin "object.__class__") "__get__" = some (some (.builtin "getset_descriptor.__get__")))
    (yt_Posts : PySem.W.takesIn K (.builtin "object.__class__") = some true)
    (ym_Posts : PySem.W.mroIn K C_Posts (.type "object") = some true)
    (xl_Answer : PySem.W.isClsIn K C_Answer = true)
    (xt_Answer : PySem.W.typeIn K (.ref C_Answer) = some (.type "type"))
    (xl_Wells : PySem.W.isClsIn K C_Wells = true)
    (xt_Wells : PySem.W.typeIn K (.ref C_Wells) = some (.type "type"))
    (xk_Posts_Answer : PySem.W.subIn K (.ref C_Posts) (.ref C_Answer) = some true)
    (xq_Posts_Answer : (Value.ref C_Posts == Value.ref C_Answer) = false)
    (xk_Posts_Wells : PySem.W.subIn K (.ref C_Posts) (.ref C_Wells) = some false)
    (xq_Posts_Wells : (Value.ref C_Posts == Value.ref C_Wells) = false)
    (g_MOST_VILLAGES : PySem.W.nsIn K mainGlobals "MOST_VILLAGES" = some (some (.int 12 t_MOST_VILLAGES)))
    (g_MOST_LENGTH : PySem.W.nsIn K mainGlobals "MOST_LENGTH" = some (some (.int 1000000 t_MOST_LENGTH))) :
    ∃ fd : FuncData, (∀ (s : Shared) (v : Value), BindsTo s fd ⟨[v], []⟩ [("_law_script", v)]) ∧ ∀ base : Heap, K.In base → base.Ns mainGlobals mg → Bm base mg → PySem.W.CodeHd base c_of_paired P_of_paired → PySem.W.CodeHd base c_of_paired P_of_paired → FnOk l.prog w K mg base CX0 8 fa fd ["_law_script"] (spLaw K P_of_paired P_of_paired) := by
  have e := hfa.symm.trans (PySem.W.mg_of X G a_law)
  cases e
  have F_is_number := fun_mk (st := s_is_number) l_is_number c_is_number k_is_number
  have b_is_number : Binds K _ ["value"] [] := binds1 F_is_number fun _ _ _ _ _ _ _ => rfl
  have F_is_whole := fun_mk (st := s_is_whole) l_is_whole c_is_whole k_is_whole
  have b_is_whole : Binds K _ ["value", "least", "most"] [] := binds3 F_is_whole fun _ _ _ _ _ _ _ _ _ => rfl
  have F_are_below := fun_mk (st := s_are_below) l_are_below c_are_below k_are_below
  have b_are_below : Binds K _ ["values", "many"] [] := binds2 F_are_below fun _ _ _ _ _ _ _ _ => rfl
  have F_is_road := fun_mk (st := s_is_road) l_is_road c_is_road k_is_road
  have b_is_road : Binds K _ ["road", "villages"] [] := binds2 F_is_road fun _ _ _ _ _ _ _ _ => rfl
  have F_is_tree := fun_mk (st := s_is_tree) l_is_tree c_is_tree k_is_tree
  have b_is_tree : Binds K _ ["villages", "roads"] [] := binds2 F_is_tree fun _ _ _ _ _ _ _ _ => rfl
  have F_steps := fun_mk (st := s_steps) l_steps c_steps k_steps
  have b_steps : Binds K _ ["roads", "village"] [] := binds2 F_steps fun _ _ _ _ _ _ _ _ => rfl
  have F_reached := fun_mk (st := s_reached) l_reached c_reached k_reached
  have b_reached : Binds K _ ["roads", "start"] [] := binds2 F_reached fun _ _ _ _ _ _ _ _ => rfl
  have F_Tree_init := fun_mk (st := s_Tree_init) l_Tree_init c_Tree_init k_Tree_init
  have b_Tree_init : Binds K _ ["self", "villages", "roads"] [] := binds3 F_Tree_init fun _ _ _ _ _ _ _ _ _ => rfl
  have F_Tree_roads := fun_mk (st := s_Tree_roads) l_Tree_roads c_Tree_roads k_Tree_roads
  have b_Tree_roads : Binds K _ ["self"] [] := binds1 F_Tree_roads fun _ _ _ _ _ _ _ => rfl
  have F_distances_from := fun_mk (st := s_distances_from) l_distances_from c_distances_from k_distances_from
  have b_distances_from : Binds K _ ["tree", "village"] [] := binds2 F_distances_from fun _ _ _ _ _ _ _ _ => rfl
  have F_distances := fun_mk (st := s_distances) l_distances c_distances k_distances
  have b_distances : Binds K _ ["tree"] [] := binds1 F_distances fun _ _ _ _ _ _ _ => rfl
  have F_Posts_init := fun_mk (st := s_Posts_init) l_Posts_init c_Posts_init k_Posts_init
  have b_Posts_init : Binds K _ ["self", "pairs", "posts"] [] := binds3 F_Posts_init fun _ _ _ _ _ _ _ _ _ => rfl
  have F_Posts_shows := fun_mk (st := s_Posts_shows) l_Posts_shows c_Posts_shows k_Posts_shows
  have b_Posts_shows : Binds K _ ["self", "tree", "number"] [] := binds3 F_Posts_shows fun _ _ _ _ _ _ _ _ _ => rfl
  have F_none_meet := fun_mk (st := s_none_meet) l_none_meet c_none_meet k_none_meet
  have b_none_meet : Binds K _ ["roads"] [] := binds1 F_none_meet fun _ _ _ _ _ _ _ => rfl
  have F_all_posted := fun_mk (st := s_all_posted) l_all_posted c_all_posted k_all_posted
  have b_all_posted : Binds K _ ["roads", "posts"] [] := binds2 F_all_posted fun _ _ _ _ _ _ _ _ => rfl
  have F_paired := fun_mk (st := s_paired) l_paired c_paired k_paired
  have b_paired : Binds K _ ["tree"] [] := binds1 F_paired fun _ _ _ _ _ _ _ => rfl
  have F_outer_length := fun_mk (st := s_outer_length) l_outer_length c_outer_length k_outer_length
  have b_outer_length : Binds K _ ["road", "lengths"] [] := binds2 F_outer_length fun _ _ _ _ _ _ _ _ => rfl
  have F_inner_end := fun_mk (st := s_inner_end) l_inner_end c_inner_end k_inner_end
  have b_inner_end : Binds K _ ["road", "lengths"] [] := binds2 F_inner_end fun _ _ _ _ _ _ _ _ => rfl
  have F__law_cell_at := fun_mk (st := s__law_cell_at) l__law_cell_at c__law_cell_at k__law_cell_at
  have b__law_cell_at : Binds K _ ["_law_script", "_law_k"] [] := binds2 F__law_cell_at fun _ _ _ _ _ _ _ _ => rfl
  have F__law_draw := fun_mk (st := s__law_draw) l__law_draw c__law_draw k__law_draw
  have b__law_draw : Binds K _ ["_law_cell", "_law_k", "_law_many"] [] := binds3 F__law_draw fun _ _ _ _ _ _ _ _ _ => rfl
  have F__law_told := fun_mk (st := s__law_told) l__law_told c__law_told k__law_told
  have b__law_told : Binds K _ ["_law_script", "_law_first", "_law_most"] [] := binds3 F__law_told fun _ _ _ _ _ _ _ _ _ => rfl
  have F__law_name := fun_mk (st := s__law_name) l__law_name c__law_name k__law_name
  have b__law_name : Binds K _ ["_law_k", "_law_villages", "_law_turn"] [] := binds3 F__law_name fun _ _ _ _ _ _ _ _ _ => rfl
  have F__law_shown := fun_mk (st := s__law_shown) l__law_shown c__law_shown k__law_shown
  have b__law_shown : Binds K _ ["_law_told_here", "_law_pairs", "_law_posts", "_law_many"] [] := binds4 F__law_shown fun _ _ _ _ _ _ _ _ _ _ => rfl
  have F__law_rising := fun_mk (st := s__law_rising) l__law_rising c__law_rising k__law_rising
  have b__law_rising : Binds K _ ["_law_some", "_law_many"] [] := binds2 F__law_rising fun _ _ _ _ _ _ _ _ => rfl
  have F__law_bent := fun_mk (st := s__law_bent) l__law_bent c__law_bent k__law_bent
  have b__law_bent : Binds K _ ["_law_some", "_law_cell", "_law_many"] [] := binds3 F__law_bent fun _ _ _ _ _ _ _ _ _ => rfl
  have F__law_says := fun_mk (st := s__law_says) l__law_says c__law_says k__law_says
  have b__law_says : Binds K _ ["_law_answer", "_law_tree", "_law_many", "_law_due"] [] := binds4 F__law_says fun _ _ _ _ _ _ _ _ _ _ => rfl
  have F__law_changed_right := fun_mk (st := s__law_changed_right) l__law_changed_right c__law_changed_right k__law_changed_right
  have b__law_changed_right : Binds K _ ["_law_told_here", "_law_tree", "_law_found", "_law_more"] [] := binds4 F__law_changed_right fun _ _ _ _ _ _ _ _ _ _ => rfl
  have F_law := fun_mk (st := s_law) l_law c_law k_law
  have b_law : Binds K _ ["_law_script"] [] := binds1 F_law fun _ _ _ _ _ _ _ => rfl
  have TT : Txt K mg { f_is_number := f_is_number, d_is_number := _, f_is_whole := f_is_whole, d_is_whole := _, f_are_below := f_are_below, d_are_below := _, f_is_road := f_is_road, d_is_road := _, f_is_tree := f_is_tree, d_is_tree := _, f_steps := f_steps, d_steps := _, f_reached := f_reached, d_reached := _, f_Tree_init := f_Tree_init, d_Tree_init := _, f_Tree_roads := f_Tree_roads, d_Tree_roads := _, f_distances_from := f_distances_from, d_distances_from := _, f_distances := f_distances, d_distances := _, f_Posts_init := f_Posts_init, d_Posts_init := _, f_Posts_shows := f_Posts_shows, d_Posts_shows := _, f_none_meet := f_none_meet, d_none_meet := _, f_all_posted := f_all_posted, d_all_posted := _, f_paired := f_paired, d_paired := _, f_outer_length := f_outer_length, d_outer_length := _, f_inner_end := f_inner_end, d_inner_end := _, f__law_cell_at := f__law_cell_at, d__law_cell_at := _, f__law_draw := f__law_draw, d__law_draw := _, f__law_told := f__law_told, d__law_told := _, f__law_name := f__law_name, d__law_name := _, f__law_shown := f__law_shown, d__law_shown := _, f__law_rising := f__law_rising, d__law_rising := _, f__law_bent := f__law_bent, d__law_bent := _, f__law_says := f__law_says, d__law_says := _, f__law_changed_right := f__law_changed_right, d__law_changed_right := _, f_law := fa, d_law := _, C_RoadError := 0, C_BadTree := 0, C_Tree := C_Tree, C_Answer := C_Answer, C_Wells := C_Wells, C_Posts := C_Posts, k_MOST_VILLAGES := t_MOST_VILLAGES, k_MOST_LENGTH := t_MOST_LENGTH, c_paired := c_of_paired, P_paired := P_of_paired } := {
    z_ValueError := PySem.W.mg_none_of X G z_ValueError,
    z_all := PySem.W.mg_none_of X G z_all,
    z_bool := PySem.W.mg_none_of X G z_bool,
    z_int := PySem.W.mg_none_of X G z_int,
    z_isinstance := PySem.W.mg_none_of X G z_isinstance,
    z_len := PySem.W.mg_none_of X G z_len,
    z_list := PySem.W.mg_none_of X G z_list,
    z_max := PySem.W.mg_none_of X G z_max,
    z_min := PySem.W.mg_none_of X G z_min,
    z_range := PySem.W.mg_none_of X G z_range,
    z_set := PySem.W.mg_none_of X G z_set,
    z_sorted := PySem.W.mg_none_of X G z_sorted,
    z_tuple := PySem.W.mg_none_of X G z_tuple,
    g_MOST_VILLAGES := PySem.W.mg_of X G g_MOST_VILLAGES,
    g_MOST_LENGTH := PySem.W.mg_of X G g_MOST_LENGTH,
    m_Answer := PySem.W.mg_of X G aC_Answer,
    m_Wells := PySem.W.mg_of X G aC_Wells,
    ty_Posts := fun e => .ins e ⟨pg_Posts, hd_Posts, po_Posts, sa_Posts⟩ ya_Posts yn_Posts yt_Posts ym_Posts,
    o_Posts_Answer := kitOne_ne xq_Posts_Answer (kitCls_of xl_Answer xt_Answer xk_Posts_Answer),
    o_Posts_Wells := kitOne_ne xq_Posts_Wells (kitCls_of xl_Wells xt_Wells xk_Posts_Wells),
    cd_paired := by unfold codeOf; rw [l_paired],
    F_is_number := F_is_number,
    b_is_number := b_is_number,
    m_is_number := PySem.W.mg_of X G a_is_number,
    F_is_whole := F_is_whole,
    b_is_whole := b_is_whole,
    m_is_whole := PySem.W.mg_of X G a_is_whole,
    F_are_below := F_are_below,
    b_are_below := b_are_below,
    m_are_below := PySem.W.mg_of X G a_are_below,
    F_is_road := F_is_road,
    b_is_road := b_is_road,
    m_is_road := PySem.W.mg_of X G a_is_road,
    F_is_tree := F_is_tree,
    b_is_tree := b_is_tree,
    m_is_tree := PySem.W.mg_of X G a_is_tree,
    F_steps := F_steps,
    b_steps := b_steps,
    m_steps := PySem.W.mg_of X G a_steps,
    F_reached := F_reached,
    b_reached := b_reached,
    m_reached := PySem.W.mg_of X G a_reached,
    F_Tree_init := F_Tree_init,
    b_Tree_init := b_Tree_init,
    M_Tree := ⟨mk_Tree, a_Tree_init, i_Tree_init, kc_Tree⟩,
    F_Tree_roads := F_Tree_roads,
    b_Tree_roads := b_Tree_roads,
    M_Tree_roads := ⟨a_Tree_roads, i_Tree_roads, k_Tree_roads⟩,
    F_distances_from := F_distances_from,
    b_distances_from := b_distances_from,
    m_distances_from := PySem.W.mg_of X G a_distances_from,
    F_distances := F_distances,
    b_distances := b_distances,
    m_distances := PySem.W.mg_of X G a_distances,
    F_Posts_init := F_Posts_init,
    b_Posts_init := b_Posts_init,
    M_Posts := ⟨mk_Posts, a_Posts_init, i_Posts_init, kc_Posts⟩,
    F_Posts_shows := F_Posts_shows,
    b_Posts_shows := b_Posts_shows,
    M_Posts_shows := ⟨a_Posts_shows, i_Posts_shows, k_Posts_shows⟩,
    F_none_meet := F_none_meet,
    b_none_meet := b_none_meet,
    m_none_meet := PySem.W.mg_of X G a_none_meet,
    F_all_posted := F_all_posted,
    b_all_posted := b_all_posted,
    m_all_posted := PySem.W.mg_of X G a_all_posted,
    F_paired := F_paired,
    b_paired := b_paired,
    m_paired := PySem.W.mg_of X G a_paired,
    F_outer_length := F_outer_length,
    b_outer_length := b_outer_length,
    m_outer_length := PySem.W.mg_of X G a_outer_length,
    F_inner_end := F_inner_end,
    b_inner_end := b_inner_end,
    m_inner_end := PySem.W.mg_of X G a_inner_end,
    F__law_cell_at := F__law_cell_at,
    b__law_cell_at := b__law_cell_at,
    m__law_cell_at := PySem.W.mg_of X G a__law_cell_at,
    F__law_draw := F__law_draw,
    b__law_draw := b__law_draw,
    m__law_draw := PySem.W.mg_of X G a__law_draw,
    F__law_told := F__law_told,
    b__law_told := b__law_told,
    m__law_told := PySem.W.mg_of X G a__law_told,
    F__law_name := F__law_name,
    b__law_name := b__law_name,
    m__law_name := PySem.W.mg_of X G a__law_name,
    F__law_shown := F__law_shown,
    b__law_shown := b__law_shown,
    m__law_shown := PySem.W.mg_of X G a__law_shown,
    F__law_rising := F__law_rising,
    b__law_rising := b__law_rising,
    m__law_rising := PySem.W.mg_of X G a__law_rising,
    F__law_bent := F__law_bent,
    b__law_bent := b__law_bent,
    m__law_bent := PySem.W.mg_of X G a__law_bent,
    F__law_says := F__law_says,
    b__law_says := b__law_says,
    m__law_says := PySem.W.mg_of X G a__law_says,
    F__law_changed_right := F__law_changed_right,
    b__law_changed_right := b__law_changed_right,
    m__law_changed_right := PySem.W.mg_of X G a__law_changed_right,
    F_law := F_law,
    b_law := b_law,
    m_law := PySem.W.mg_of X G a_law,
    cl_Tree := ⟨pg_Tree, hd_Tree, po_Tree, sa_Tree⟩,
    m_Tree := PySem.W.mg_of X G aC_Tree,
    n_Tree_road_list := nA_Tree_road_list,
    n_Tree_size := nA_Tree_size,
    cl_Posts := ⟨pg_Posts, hd_Posts, po_Posts, sa_Posts⟩,
    m_Posts := PySem.W.mg_of X G aC_Posts,
    n_Posts_pairs := nA_Posts_pairs,
    n_Posts_posts := nA_Posts_posts }
  exact ⟨_, fun s v => .of_eq rfl, fun base _ _ hb h0 h1 => ok_law TT ⟨hb, h0⟩⟩
theorem walk {l : PySem.W.OpenLaw} {q : Program} {loose : List Str} {XP : (Str → Option Value) → Heap → Prop} {YP : World → Heap → Prop} {d : DefRec} {K : Params → PySem.W.Frag} {c1 P1 c2 P2 : Addr} (hn : l.most = some 63) (hdf : d.params.defaults = [])
    (hY : ∀ (w : World) (h : Heap), YP w h → (K w.params).In h)
    (r1 : ((PyProof.Rows.recsOf q).find? (fun e => e.name == ("paired" : Str))).isSome = true) (r2 : ((PyProof.Rows.recsOf q).find? (fun e => e.name == ("paired" : Str))).isSome = true) (t1 : ∀ w : World, PySem.W.tabIn (K w.params) "paired" = some (c1, P1)) (t2 : ∀ w : World, PySem.W.tabIn (K w.params) "paired" = some (c2, P2))
    (n1 : ∀ w : World, (K w.params).lookup P1 = none) (n2 : ∀ w : World, (K w.params).lookup P2 = none)
    (F : ∀ (w : World) (mg : Str → Option Value) (fa : Addr) (h : Heap), (K w.params).In h → h.Ns mainGlobals mg → mg d.name = some (.ref fa) →
      ∃ fd : FuncData, (∀ (s : Shared) (u : Value), BindsTo s fd ⟨[u], []⟩ [("_law_script", u)]) ∧ ∀ base : Heap, (K w.params).In base → base.Ns mainGlobals mg → Bm base mg → PySem.W.CodeHd base c1 P1 → PySem.W.CodeHd base c2 P2 → FnOk l.prog w (K w.params) mg base CX0 8 fa fd ["_law_script"] (spLaw (K w.params) P1 P2)) :
    PySem.W.WalkO q loose XP YP l.row.toRowW d [] (fun f vs => PySem.call f vs) :=
  L2.walk_ofT (n := 63) (k := 8) (x := "_law_script") (sp := fun w => spLaw (K w.params) P1 P2) hn (by decide) hdf ⟨rfl, by decide, by decide⟩ hY r1 r2 t1 t2 n1 n2 F (fun _ _ a ns hl h1 h2 hS => ⟨a, ns, rfl, hS, hl, h1, h2, fun _ => rfl⟩)
end WR
open PySem PySem.W PyProof.Rows
set_option maxRecDepth 100000 in
set_option maxHeartbeats 0 in
theorem PySem.Challenge.cw_wellroads_k05_whole_pairs_and_posts_holds : PySem.Challenge.rw_wellroads_k05_whole_pairs_and_posts.Holds := by
  w_on; o_law; k_head; (case hw => w_witness2)
  k_fill
  refine' WR.walk (l := PySem.Challenge.rw_wellroads_k05_whole_pairs_and_posts) rfl rfl (fun w h Y => PySem.W.km_in_of Y) ?r1 ?r2 ?t1 ?t2 ?n1 ?n2 ?F
  (case r1 => kernel_rfl)
  (case r2 => kernel_rfl)
  (case t1 => intro w; refine' WR.tabIn_of ?h1 ?h2 ?h3 ?h4; (case h1 => k_is); (case h2 => k_is); (case h3 => k_is); (case h4 => rfl))
  (case t2 => intro w; refine' WR.tabIn_of ?h1 ?h2 ?h3 ?h4; (case h1 => k_is); (case h2 => k_is); (case h3 => k_is); (case h4 => rfl))
  (case n1 => intro w; rfl)
  (case n2 => intro w; rfl)
  case F =>
    intro w mg fa h KX G hmg
    refine' WR.all_mk KX G hmg ?aC_Tree ?aC_Posts ?aC_Answer ?aC_Wells ?a_is_number ?l_is_number ?c_is_number ?k_is_number ?a_is_whole ?l_is_whole ?c_is_whole ?k_is_whole ?a_are_below ?l_are_below ?c_are_below ?k_are_below ?a_is_road ?l_is_road ?c_is_road ?k_is_road ?a_is_tree ?l_is_tree ?c_is_tree ?k_is_tree ?a_steps ?l_steps ?c_steps ?k_steps ?a_reached ?l_reached ?c_reached ?k_reached ?a_Tree_init ?i_Tree_init ?l_Tree_init ?c_Tree_init ?k_Tree_init ?a_Tree_roads ?i_Tree_roads ?l_Tree_roads ?c_Tree_roads ?k_Tree_roads ?a_distances_from ?l_distances_from ?c_distances_from ?k_distances_from ?a_distances ?l_distances ?c_distances ?k_distances ?a_Posts_init ?i_Posts_init ?l_Posts_init ?c_Posts_init ?k_Posts_init ?a_Posts_shows ?i_Posts_shows ?l_Posts_shows ?c_Posts_shows ?k_Posts_shows ?a_none_meet ?l_none_meet ?c_none_meet ?k_none_meet ?a_all_posted ?l_all_posted ?c_all_posted ?k_all_posted ?a_paired ?l_paired ?c_paired ?k_paired ?a_outer_length ?l_outer_length ?c_outer_length ?k_outer_length ?a_inner_end ?l_inner_end ?c_inner_end ?k_inner_end ?a__law_cell_at ?l__law_cell_at ?c__law_cell_at ?k__law_cell_at ?a__law_draw ?l__law_draw ?c__law_draw ?k__law_draw ?a__law_told ?l__law_told ?c__law_told ?k__law_told ?a__law_name ?l__law_name ?c__law_name ?k__law_name ?a__law_shown ?l__law_shown ?c__law_shown ?k__law_shown ?a__law_rising ?l__law_rising ?c__law_rising ?k__law_rising ?a__law_bent ?l__law_bent ?c__law_bent ?k__law_bent ?a__law_says ?l__law_says ?c__law_says ?k__law_says ?a__law_changed_right ?l__law_changed_right ?c__law_changed_right ?k__law_changed_right ?a_law ?l_law ?c_law ?k_law ?pg_Tree ?hd_Tree ?po_Tree ?sa_Tree ?mk_Tree ?kc_Tree ?nA_Tree_road_list ?nA_Tree_size ?pg_Posts ?hd_Posts ?po_Posts ?sa_Posts ?mk_Posts ?kc_Posts ?nA_Posts_pairs ?nA_Posts_posts ?z_ValueError ?z_all ?z_bool ?z_int ?z_isinstance ?z_len ?z_list ?z_max ?z_min ?z_range ?z_set ?z_sorted ?z_tuple ?ya_Posts ?yn_Posts ?yt_Posts ?ym_Posts ?xl_Answer ?xt_Answer ?xl_Wells ?xt_Wells ?xk_Posts_Answer ?xq_Posts_Answer ?xk_Posts_Wells ?xq_Posts_Wells ?g_MOST_VILLAGES ?g_MOST_LENGTH
    (case aC_Tree => k_is)
    (case aC_Posts => k_is)
    (case aC_Answer => k_is)
    (case aC_Wells => k_is)
    (case a_is_number => k_is)
    (case l_is_number => k_is)
    (case c_is_number => k_is)
    (case k_is_number => k_is)
    (case a_is_whole => k_is)
    (case l_is_whole => k_is)
    (case c_is_whole => k_is)
    (case k_is_whole => k_is)
    (case a_are_below => k_is)
    (case l_are_below => k_is)
    (case c_are_below => k_is)
    (case k_are_below => k_is)
    (case a_is_road => k_is)
    (case l_is_road => k_is)
    (case c_is_road => k_is)
    (case k_is_road => k_is)
    (case a_is_tree => k_is)
    (case l_is_tree => k_is)
    (case c_is_tree => k_is)
    (case k_is_tree => k_is)
    (case a_steps => k_is)
    (case l_steps => k_is)
    (case c_steps => k_is)
    (case k_steps => k_is)
    (case a_reached => k_is)
    (case l_reached => k_is)
    (case c_reached => k_is)
    (case k_reached => k_is)
    (case a_Tree_init => k_is)
    (case i_Tree_init => k_is)
    (case l_Tree_init => k_is)
    (case c_Tree_init => k_is)
    (case k_Tree_init => k_is)
    (case a_Tree_roads => k_is)
    (case i_Tree_roads => k_is)
    (case l_Tree_roads => k_is)
    (case c_Tree_roads => k_is)
    (case k_Tree_roads => k_is)
    (case a_distances_from => k_is)
    (case l_distances_from => k_is)
    (case c_distances_from => k_is)
    (case k_distances_from => k_is)
    (case a_distances => k_is)
    (case l_distances => k_is)
    (case c_distances => k_is)
    (case k_distances => k_is)
    (case a_Posts_init => k_is)
    (case i_Posts_init => k_is)
    (case l_Posts_init => k_is)
    (case c_Posts_init => k_is)
    (case k_Posts_init => k_is)
    (case a_Posts_shows => k_is)
    (case i_Posts_shows => k_is)
    (case l_Posts_shows => k_is)
    (case c_Posts_shows => k_is)
    (case k_Posts_shows => k_is)
    (case a_none_meet => k_is)
    (case l_none_meet => k_is)
    (case c_none_meet => k_is)
    (case k_none_meet => k_is)
    (case a_all_posted => k_is)
    (case l_all_posted => k_is)
    (case c_all_posted => k_is)
    (case k_all_posted => k_is)
    (case a_paired => k_is)
    (case l_paired => k_is)
    (case c_paired => k_is)
    (case k_paired => k_is)
    (case a_outer_length => k_is)
    (case l_outer_length => k_is)
    (case c_outer_length => k_is)
    (case k_outer_length => k_is)
    (case a_inner_end => k_is)
    (case l_inner_end => k_is)
    (case c_inner_end => k_is)
    (case k_inner_end => k_is)
    (case a__law_cell_at => k_is)
    (case l__law_cell_at => k_is)
    (case c__law_cell_at => k_is)
    (case k__law_cell_at => k_is)
    (case a__law_draw => k_is)
    (case l__law_draw => k_is)
    (case c__law_draw => k_is)
    (case k__law_draw => k_is)
    (case a__law_told => k_is)
    (case l__law_told => k_is)
    (case c__law_told => k_is)
    (case k__law_told => k_is)
    (case a__law_name => k_is)
    (case l__law_name => k_is)
    (case c__law_name => k_is)
    (case k__law_name => k_is)
    (case a__law_shown => k_is)
    (case l__law_shown => k_is)
    (case c__law_shown => k_is)
    (case k__law_shown => k_is)
    (case a__law_rising => k_is)
    (case l__law_rising => k_is)
    (case c__law_rising => k_is)
    (case k__law_rising => k_is)
    (case a__law_bent => k_is)
    (case l__law_bent => k_is)
    (case c__law_bent => k_is)
    (case k__law_bent => k_is)
    (case a__law_says => k_is)
    (case l__law_says => k_is)
    (case c__law_says => k_is)
    (case k__law_says => k_is)
    (case a__law_changed_right => k_is)
    (case l__law_changed_right => k_is)
    (case c__law_changed_right => k_is)
    (case k__law_changed_right => k_is)
    (case a_law => k_is)
    (case l_law => k_is)
    (case c_law => k_is)
    (case k_law => k_is)
    (case pg_Tree => k_is)
    (case hd_Tree => k_is)
    (case po_Tree => k_is)
    (case sa_Tree => k_is)
    (case mk_Tree => k_is)
    (case kc_Tree => k_is)
    (case nA_Tree_road_list => k_is)
    (case nA_Tree_size => k_is)
    (case pg_Posts => k_is)
    (case hd_Posts => k_is)
    (case po_Posts => k_is)
    (case sa_Posts => k_is)
    (case mk_Posts => k_is)
    (case kc_Posts => k_is)
    (case nA_Posts_pairs => k_is)
    (case nA_Posts_posts => k_is)
    (case z_ValueError => k_is)
    (case z_all => k_is)
    (case z_bool => k_is)
    (case z_int => k_is)
    (case z_isinstance => k_is)
    (case z_len => k_is)
    (case z_list => k_is)
    (case z_max => k_is)
    (case z_min => k_is)
    (case z_range => k_is)
    (case z_set => k_is)
    (case z_sorted => k_is)
    (case z_tuple => k_is)
    (case ya_Posts => k_is)
    (case yn_Posts => k_is)
    (case yt_Posts => k_is)
    (case ym_Posts => k_is)
    (case xl_Answer => k_is)
    (case xt_Answer => k_is)
    (case xl_Wells => k_is)
    (case xt_Wells => k_is)
    (case xk_Posts_Answer => k_is)
    (case xq_Posts_Answer => rfl)
    (case xk_Posts_Wells => k_is)
    (case xq_Posts_Wells => rfl)
    (case g_MOST_VILLAGES => k_is)
    (case g_MOST_LENGTH => k_is)
