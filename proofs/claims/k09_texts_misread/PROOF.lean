import PyProof.Rows.All
import Wide.All
import OpenK.AllK
import Wide.FinOn
import Lean
import PyProof.EqAt
import PyProof.EqKinds
import PyProof.TupleCall
import PyProof.NeKinds
import PySem.Challenge.RW_wellroads_k09_texts_misread
set_option Elab.async false
set_option linter.all false
set_option maxRecDepth 100000
set_option maxHeartbeats 4000000
/-! THE HAND LAYER, for ints, bools, texts, own classes, LISTS and tuples (index, slices, in, append, pop ..), calls, loops. Paste it whole ahead of your own text; what your proof does not reach may be deleted. -/
namespace L2
open PySem PySem.Spec PyProof.Rows

/-- a key: an int or a str -/
abbrev Key := Sum Int Str
def keyIs : Key → Value → Bool
  | .inl k, v => Value.isInt k v
  | .inr x, v => Value.isStrOf x v
def keyH (w : World) : Key → Int
  | .inl k => hashInt k
  | .inr x => hashStr w x
theorem keyIs_shape : ∀ {k : Key} {v : Value}, keyIs k v = true → (∃ i t, k = Sum.inl i ∧ v = Value.int i t) ∨ (∃ x t, k = Sum.inr x ∧ v = Value.str x t)
  | .inl i, v, h => by
    obtain ⟨t, e⟩ := Value.isInt_shape (k := i) (v := v) h
    exact .inl ⟨i, t, rfl, e⟩
  | .inr x, v, h => by
    obtain ⟨t, e⟩ := Value.isStrOf_shape (x := x) (v := v) h
    exact .inr ⟨x, t, rfl, e⟩
theorem keyIs_int (i : Int) (t : Tok) : keyIs (.inl i) (.int i t) = true := by simp [keyIs, Value.isInt]
theorem keyIs_str (x : Str) (t : Tok) : keyIs (.inr x) (.str x t) = true := by simp [keyIs, Value.isStrOf]
theorem key_ll (a b : Int) : decide ((Sum.inl a : Key) = Sum.inl b) = (a == b) := by
  by_cases e : a = b
  · subst e; simp
  · have h : ¬ (Sum.inl a : Key) = Sum.inl b := fun q => e (Sum.inl.inj q)
    rw [decide_eq_false h]
    exact (beq_eq_false_iff_ne.mpr e).symm
theorem key_rr (a b : Str) : decide ((Sum.inr a : Key) = Sum.inr b) = decide (a = b) := by
  by_cases e : a = b
  · subst e; simp
  · have h : ¬ (Sum.inr a : Key) = Sum.inr b := fun q => e (Sum.inr.inj q)
    rw [decide_eq_false h, decide_eq_false e]
theorem key_lr (a : Int) (b : Str) : decide ((Sum.inl a : Key) = Sum.inr b) = false := decide_eq_false (fun q => nomatch q)
theorem key_rl (a : Str) (b : Int) : decide ((Sum.inr a : Key) = Sum.inl b) = false := decide_eq_false (fun q => nomatch q)

def mixKind (prog : Program) (w : World) : PySem.KeyKind prog w Key where
  is := keyIs
  hash := keyH w
  inj := fun v a b ha hb => by
    rcases keyIs_shape ha with ⟨i, t, rfl, rfl⟩ | ⟨x, t, rfl, rfl⟩
    · rcases keyIs_shape hb with ⟨j, u, rfl, e⟩ | ⟨y, u, rfl, e⟩
      · injection e with e1 _; rw [e1]
      · exact nomatch e
    · rcases keyIs_shape hb with ⟨j, u, rfl, e⟩ | ⟨y, u, rfl, e⟩
      · exact nomatch e
      · injection e with e1 _; rw [e1]
  byValue := fun k v h => by
    rcases keyIs_shape h with ⟨i, t, rfl, rfl⟩ | ⟨x, t, rfl, rfl⟩ <;> rfl
  pyHash := fun hv h => by
    rcases keyIs_shape hv with ⟨i, t, rfl, rfl⟩ | ⟨x, t, rfl, rfl⟩
    · exact wpAny_pyHash_int h
    · exact wpAny_pyHash_str h
  eqBool := fun hu hv h => by
    rcases keyIs_shape hu with ⟨i, t, rfl, rfl⟩ | ⟨x, t, rfl, rfl⟩
    · rcases keyIs_shape hv with ⟨j, u, rfl, rfl⟩ | ⟨y, u, rfl, rfl⟩
      · rw [key_ll] at h; exact wpAny_eqBool_int h
      · rw [key_lr] at h; exact SeqAt.EqAt.int_str i t y u _ _ _ _ h
    · rcases keyIs_shape hv with ⟨j, u, rfl, rfl⟩ | ⟨y, u, rfl, rfl⟩
      · rw [key_rl] at h; exact SeqAt.EqAt.str_int x t j u _ _ _ _ h
      · rw [key_rr] at h; exact wpAny_eqBool_str h
  «strs» := fun k x t v h => by
    rcases keyIs_shape h with ⟨i, u, rfl, e⟩ | ⟨y, u, rfl, e⟩
    · exact nomatch e
    · injection e with e1 _
      subst e1
      cases v <;> rfl

theorem mixKind_int (prog : Program) (w : World) (i : Int) (t : Tok) : (mixKind prog w).is (.inl i) (.int i t) = true := keyIs_int i t
theorem mixKind_str (prog : Program) (w : World) (x : Str) (t : Tok) : (mixKind prog w).is (.inr x) (.str x t) = true := keyIs_str x t
end L2

namespace L2
open PySem PySem.Spec PyProof.Rows

/-- a value, without the heap -/
inductive V where
  | non | bl (b : Bool) | int (i : Int) | str (x : Str) | byt (b : Array UInt8) | flt (b : UInt64) | ref (a : Addr) | ty (n : String)
  deriving DecidableEq

def RelV : V → Value → Prop
  | .non, u => u = Value.none
  | .bl b, u => u = Value.bool b
  | .int i, u => ∃ t, u = Value.int i t
  | .str x, u => ∃ t, u = Value.str x t
  | .byt b, u => ∃ t, u = Value.bytes b t
  | .flt b, u => ∃ t, u = Value.float b t
  | .ref a, u => u = Value.ref a
  | .ty n, u => u = Value.type n

abbrev Vals : List V → List Value → Prop := Paired RelV
theorem Vals.length {xs : List V} {us : List Value} (r : Vals xs us) : xs.length = us.length := Paired.length r
theorem Vals.get : ∀ {xs : List V} {us : List Value} {i : Nat} {x : V}, Vals xs us → xs[i]? = some x → ∃ u, us[i]? = some u ∧ RelV x u
  | _, _, _, _, .nil, e => by simp at e
  | _, _, 0, _, .cons r _, e => by simp at e; subst e; exact ⟨_, rfl, r⟩
  | _, _, i + 1, x, .cons _ t, e => by
    obtain ⟨u, h1, h2⟩ := Vals.get (i := i) (x := x) t (by simpa using e)
    exact ⟨u, by simpa using h1, h2⟩
theorem Vals.append : ∀ {xs ys : List V} {us ws : List Value}, Vals xs us → Vals ys ws → Vals (xs ++ ys) (us ++ ws)
  | _, _, _, _, .nil, s => s
  | _, _, _, _, .cons r t, s => .cons r (Vals.append t s)
theorem Vals.take : ∀ {xs : List V} {us : List Value} (n : Nat), Vals xs us → Vals (xs.take n) (us.take n)
  | _, _, 0, _ => .nil
  | _, _, _ + 1, .nil => .nil
  | _, _, n + 1, .cons r t => .cons r (Vals.take n t)
theorem Vals.drop : ∀ {xs : List V} {us : List Value} (n : Nat), Vals xs us → Vals (xs.drop n) (us.drop n)
  | _, _, 0, r => r
  | _, _, _ + 1, .nil => .nil
  | _, _, n + 1, .cons _ t => Vals.drop n t
def RelO : Option V → Option Value → Prop
  | some v, some u => RelV v u
  | none, none => True
  | _, _ => False
def KV {κ : Type} : List (κ × V) → List (κ × Value) → Prop := Paired fun (p : κ × V) (q : κ × Value) => p.1 = q.1 ∧ RelV p.2 q.2

/-- a key of a dict (00_mix): an int or a text -/
def kV : Key → V
  | .inl i => .int i
  | .inr x => .str x

/-- what stands at a tracked address -/
inductive HO where
  /-- a list -/
  | lst (xs : List V)
  /-- a tuple (never changes) -/
  | tup (xs : List V)
  /-- a dict whose keys are ints and texts; one whose keys are tuples of ints and texts (the empty one is both) -/
  | dK (kvs : List (Key × V)) | dT (kvs : List (List Key × V))
  /-- a set of ints: its members, its size -/
  | set (S : Int → Bool) (n : Nat)
  /-- an instance of the class at C, its dict at dx, its attributes -/
  | ins (C dx : Addr) (fs : List (Str × V))
  /-- the dict of the instance at x -/
  | own (x : Addr)
  /-- the dict of an exception -/
  | xd (fs : List (Str × V))
  /-- a bound method, f of x -/
  | met (f x : Addr)
  /-- a range object lo, lo + 1, .. below hi -/
  | rng (lo hi : Int)
  /-- a thing that is known to the object (the script; a dict while a loop walks it): read, never written while it is so -/
  | frz (o : Obj) (u : HO)
  /-- a code object's table -/
  | tbl (ps : Array Value)
  /-- any other thing, by what is true of its one object (a def of one's own: SetO a S n := HO.ext fun h => ..) -/
  | ext (φ : Heap → Prop)

abbrev Hp := Addr → Option HO
def upd (H : Hp) (a : Addr) (o : HO) : Hp := fun b => if b = a then some o else H b
theorem upd_same {H : Hp} {a : Addr} {o : HO} : upd H a o a = some o := by unfold upd; rw [if_pos rfl]
theorem upd_ne {H : Hp} {a b : Addr} {o : HO} (h : b ≠ a) : upd H a o b = H b := by unfold upd; rw [if_neg h]
theorem upd_upd {H : Hp} {a : Addr} {o u : HO} : upd (upd H a o) a u = upd H a u := by
  funext b; unfold upd; split <;> rfl
/-- two objects of different content stand apart -/
theorem ne_of {H : Hp} {a b : Addr} {o u : HO} (h : H a = some o) (h' : H b = some u) (d : o ≠ u) : a ≠ b := by
  intro e; subst e; rw [h] at h'; exact d (Option.some.inj h')
theorem ne_of_none {H : Hp} {a b : Addr} {o : HO} (h : H a = some o) (h' : H b = none) : a ≠ b := by
  intro e; subst e; rw [h] at h'; cases h'

section
variable (P : Program) (w : World)
def ObjOk (H : Hp) (h : Heap) (a : Addr) : HO → Prop
  | .lst xs => xs.length ≤ sizeLine ∧ ∃ (its : List Value) (n : Nat), Vals xs its ∧ h.get? a = some { cls := .type "list", data := .seq its.toArray n }
  | .tup xs => xs.length ≤ sizeLine ∧ ∃ its : List Value, Vals xs its ∧ IsTup h a its.toArray
  | .dK kvs => kvs.length ≤ sizeLine ∧ (a == sysModules) = false ∧ ∃ vs, KV kvs vs ∧ h.DictOf (mixKind P w) a vs
  | .dT kvs => kvs.length ≤ sizeLine ∧ (a == sysModules) = false ∧ ∃ xs : List (List Key × Addr × Value),
      Paired (fun (p : List Key × V) (q : List Key × Addr × Value) => p.1 = q.1 ∧ H q.2.1 = some (.tup (p.1.map kV)) ∧ RelV p.2 q.2.2) kvs xs ∧
      ∃ o es ep, h.get? a = some o ∧ o.ExactDict ∧ o.data = .dict es ep ∧ es.toList = xs.map (entryOfKey (tupleKind (mixKind P w))) ∧ (xs.map (·.1)).Nodup
  | .set S n => h.SetOf (intKind P w) a S n
  | .ins C dx fs => H dx = some (.own a) ∧ fs.length ≤ 1000 ∧ dx ≠ a ∧ h.get? a = some (PySem.W.instObj C dx) ∧
      ∃ mA, h.Ns1 dx mA ∧ (∀ f, RelO (fs.lookup f) (mA f)) ∧ PySem.Within mA (fs.map (·.1))
  | .own _ => ∃ o, h.get? a = some o
  | .xd fs => ∃ mA, h.Ns1 a mA ∧ ∀ f, RelO (fs.lookup f) (mA f)
  | .rng lo hi => ∃ t u v, h.get? a = some { cls := .type "range", data := .fields #[.int lo t, .int hi u, .int 1 v] }
  | .frz o u => h.get? a = some o ∧ ObjOk H h a u
  | .tbl ps => h.get? a = some { cls := .none, data := .fields ps }
  | .met f x => h.get? a = some (PySem.W.methodObj (.ref f) (.ref x))
  | .ext φ => φ h ∧ (∃ o, h.get? a = some o) ∧ ∀ h1 h2 : Heap, φ h1 → (∀ o, h1.get? a = some o → h2.get? a = some o) → φ h2
/-- the abstract heap is held -/
def HOk (H : Hp) (h : Heap) : Prop := ∀ a o, H a = some o → ObjOk P w H h a o
end

section
variable {P : Program} {w : World} {H H' : Hp} {h h' : Heap} {a : Addr} {o : HO}
theorem ObjOk.lt (x : ObjOk P w H h a o) : a < h.objs.size := by
  cases o with
  | lst xs => obtain ⟨_, _, _, _, e⟩ := x; exact Heap.lt_size e
  | tup xs => obtain ⟨_, _, _, p⟩ := x; exact p.lt
  | dK kvs => obtain ⟨_, _, _, _, o, _, _, e, _⟩ := x; exact Heap.lt_size e
  | dT kvs => obtain ⟨_, _, _, _, o, _, _, e, _⟩ := x; exact Heap.lt_size e
  | set S n => obtain ⟨o, _, _, _, e, _⟩ := x; exact Heap.lt_size e
  | ins C dx fs => obtain ⟨_, _, _, e, _⟩ := x; exact Heap.lt_size e
  | own y => obtain ⟨_, e⟩ := x; exact Heap.lt_size e
  | xd fs => obtain ⟨_, ⟨_, _, _, e, _⟩, _⟩ := x; exact Heap.lt_size e
  | rng lo hi => obtain ⟨_, _, _, e⟩ := x; exact Heap.lt_size e
  | frz ob u => obtain ⟨e, _⟩ := x; exact Heap.lt_size e
  | tbl ps => exact Heap.lt_size (show h.get? a = some _ from x)
  | met f y => exact Heap.lt_size (show h.get? a = some _ from x)
  | ext φ => obtain ⟨_, ⟨_, e⟩, _⟩ := x; exact Heap.lt_size e
theorem Paired.mapP {α β : Type} {F G : α → β → Prop} : ∀ {l₁ : List α} {l₂ : List β}, Paired F l₁ l₂ → (∀ a b, F a b → G a b) → Paired G l₁ l₂
  | _, _, .nil, _ => .nil
  | _, _, .cons r t, f => .cons (f _ _ r) (Paired.mapP t f)
/-- what an object's description leans on: its own object, its own dict, the tuples -/
theorem ObjOk.stay (x : ObjOk P w H h a o) (k : ∀ b u, (b = a ∨ H b = some (.own a)) → h.get? b = some u → h'.get? b = some u)
    (ho : ∀ b, H b = some (.own a) → H' b = some (.own a)) (ht : ∀ b xs, H b = some (.tup xs) → H' b = some (.tup xs)) : ObjOk P w H' h' a o := by
  induction o with
  | lst xs => obtain ⟨z, its, n, r, e⟩ := x; exact ⟨z, its, n, r, k _ _ (.inl rfl) e⟩
  | tup xs => obtain ⟨z, its, r, ob, e, c⟩ := x; exact ⟨z, its, r, ob, k _ _ (.inl rfl) e, c⟩
  | dK kvs => obtain ⟨z, y, vs, r, ob, es, ep, e, c⟩ := x; exact ⟨z, y, vs, r, ob, es, ep, k _ _ (.inl rfl) e, c⟩
  | dT kvs =>
    obtain ⟨z, y, xs, r, ob, es, ep, e, c⟩ := x
    exact ⟨z, y, xs, Paired.mapP r fun p q z => ⟨z.1, ht _ _ z.2.1, z.2.2⟩, ob, es, ep, k _ _ (.inl rfl) e, c⟩
  | set S n => obtain ⟨ob, es, ep, t, e, c⟩ := x; exact ⟨ob, es, ep, t, k _ _ (.inl rfl) e, c⟩
  | ins C dx fs =>
    obtain ⟨d, z, ne, e, mA, ⟨od, es, ep, e2, c⟩, r⟩ := x
    exact ⟨ho _ d, z, ne, k _ _ (.inl rfl) e, mA, ⟨od, es, ep, k _ _ (.inr d) e2, c⟩, r⟩
  | own y => obtain ⟨ob, e⟩ := x; exact ⟨ob, k _ _ (.inl rfl) e⟩
  | xd fs => obtain ⟨mA, ⟨od, es, ep, e, c⟩, r⟩ := x; exact ⟨mA, ⟨od, es, ep, k _ _ (.inl rfl) e, c⟩, r⟩
  | rng lo hi => obtain ⟨t, u, v, e⟩ := x; exact ⟨t, u, v, k _ _ (.inl rfl) e⟩
  | frz ob u ih => obtain ⟨e, q⟩ := x; exact ⟨k _ _ (.inl rfl) e, ih q⟩
  | tbl ps =>
    have e : h.get? a = some { cls := .none, data := .fields ps } := x
    show h'.get? a = some { cls := .none, data := .fields ps }
    exact k a _ (.inl rfl) e
  | met f y =>
    have e : h.get? a = some (PySem.W.methodObj (.ref f) (.ref y)) := x
    show h'.get? a = some (PySem.W.methodObj (.ref f) (.ref y))
    exact k a _ (.inl rfl) e
  | ext φ => obtain ⟨p, ⟨o, e⟩, st⟩ := x; exact ⟨st _ _ p fun o q => k _ _ (.inl rfl) q, ⟨o, k _ _ (.inl rfl) e⟩, st⟩
theorem HOk.lt (x : HOk P w H h) (e : H a = some o) : a < h.objs.size := (x a o e).lt
theorem HOk.fresh (x : HOk P w H h) (e : h.objs.size ≤ a) : H a = none := by
  cases q : H a with
  | none => rfl
  | some u => exact absurd (Nat.lt_of_lt_of_le (x.lt q) e) (Nat.lt_irrefl _)
/-- every object of the heap is kept -/
theorem HOk.kept (x : HOk P w H h) (k : ∀ b u, h.get? b = some u → h'.get? b = some u) : HOk P w H h' := fun a o e =>
  (x a o e).stay (fun b u _ q => k b u q) (fun _ q => q) fun _ _ q => q
/-- a new object is laid and tracked -/
theorem HOk.laid (x : HOk P w H h) (k : ∀ b u, h.get? b = some u → h'.get? b = some u) (hp : h.objs.size ≤ a) (new : ObjOk P w (upd H a o) h' a o) : HOk P w (upd H a o) h' := fun b u e => by
  have hn := x.fresh hp
  by_cases hb : b = a
  · subst hb; rw [upd_same] at e; cases e; exact new
  · rw [upd_ne hb] at e
    exact (x b u e).stay (fun c v _ q => k c v q) (fun c q => by rw [upd_ne (ne_of_none q hn)]; exact q) fun c xs q => by rw [upd_ne (ne_of_none q hn)]; exact q
end

/-- what may be read as u: it is u, or a known u -/
def Rd (H : Hp) (a : Addr) (u : HO) : Prop := H a = some u ∨ ∃ o, H a = some (.frz o u)
theorem Rd.ok {P : Program} {w : World} {H : Hp} {h : Heap} {a : Addr} {u : HO} (r : Rd H a u) (x : HOk P w H h) : ObjOk P w H h a u := by
  rcases r with r | ⟨o, r⟩
  · exact x a u r
  · obtain ⟨_, q⟩ := x a _ r
    exact q
/-- what may be written -/
def Mut : Option HO → Prop
  | some (.lst _) => True
  | some (.dK _) => True
  | some (.dT _) => True
  | some (.set _ _) => True
  | some (.ins _ _ _) => True
  | some (.ext _) => True
  | _ => False
section
variable {P : Program} {w : World} {H : Hp} {h h' : Heap} {x e : Addr} {o' : HO}
/-- the object at e is changed: x itself, or the dict of the instance x -/
theorem HOk.write (ok : HOk P w H h) (mu : Mut (H x)) (he : e = x ∨ H e = some (.own x)) (k : ∀ b u, b ≠ e → h.get? b = some u → h'.get? b = some u) (heo : ∃ u, h'.get? e = some u)
    (new : ObjOk P w (upd H x o') h' x o') : HOk P w (upd H x o') h' := fun b u q => by
  have nown : ∀ c y, H c = some (.own y) → c ≠ x := fun c y r z => by subst z; rw [r] at mu; exact mu
  have ntup : ∀ c xs, H c = some (.tup xs) → c ≠ x := fun c xs r z => by subst z; rw [r] at mu; exact mu
  by_cases hb : b = x
  · subst hb; rw [upd_same] at q; cases q; exact new
  · rw [upd_ne hb] at q
    by_cases hbe : b = e
    · have q' : H b = some (.own x) := by
        rcases he with z | z
        · exact absurd (hbe.trans z) hb
        · rw [hbe]; exact z
      rw [q] at q'; cases q'
      obtain ⟨v, hv⟩ := heo
      exact ⟨v, by rw [hbe]; exact hv⟩
    · refine (ok b u q).stay (fun c v hc r => k c v ?_ r) (fun c r => by rw [upd_ne (nown c b r)]; exact r) fun c xs r => by rw [upd_ne (ntup c xs r)]; exact r
      rcases hc with rfl | hc
      · exact hbe
      · rintro rfl
        rcases he with z | z
        · exact nown c b hc z
        · rw [hc] at z; cases z; exact hb rfl
end

/-! ### kept unless tracked; of the frames at fs (the callers') the slots may change (an exception that passes writes there); of the records at ex (iterators) nothing is said -/
structure Un (fs ex : List Addr) (H H' : Hp) (h h' : Heap) : Prop where
  keep : ∀ b o, h.get? b = some o → H b = none → b ∉ fs → b ∉ ex → h'.get? b = some o
  slot : ∀ b o, h.get? b = some o → H b = none → b ∈ fs → b ∉ ex → ∃ sl, h'.get? b = some { o with slots := sl }
  free : ∀ b o, h.get? b = some o → H b = none → b ∉ ex → H' b = none
  there : ∀ b o, h.get? b = some o → b ∉ ex → ∃ o', h'.get? b = some o'
  tups : ∀ b xs, H b = some (.tup xs) → H' b = some (.tup xs)
  frzs : ∀ b o u, H b = some (.frz o u) → H' b = some (.frz o u)
  tbls : ∀ b ps, H b = some (.tbl ps) → ∃ more, H' b = some (.tbl (ps ++ more))
section
variable {fs fs' ex ex' : List Addr} {H H1 H2 : Hp} {h h1 h2 h' : Heap} {a x e : Addr} {o : HO}
theorem Un.any (u : Un fs ex H H1 h h1) {b : Addr} {ob : Obj} (q : h.get? b = some ob) (n : H b = none) (hx : b ∉ ex) : ∃ sl, h1.get? b = some { ob with slots := sl } := by
  by_cases hb : b ∈ fs
  · exact u.slot b ob q n hb hx
  · exact ⟨ob.slots, u.keep b ob q n hb hx⟩
theorem Un.trans (a : Un fs ex H H1 h h1) (b : Un fs ex H1 H2 h1 h2) : Un fs ex H H2 h h2 where
  keep := fun c ob q n hc hx => b.keep c ob (a.keep c ob q n hc hx) (a.free c ob q n hx) hc hx
  slot := fun c ob q n hc hx => by
    obtain ⟨sl, e1⟩ := a.slot c ob q n hc hx
    obtain ⟨sl', e2⟩ := b.slot c _ e1 (a.free c ob q n hx) hc hx
    exact ⟨sl', e2⟩
  free := fun c ob q n hx => by
    obtain ⟨o', e1⟩ := a.there c ob q hx
    exact b.free c o' e1 (a.free c ob q n hx) hx
  there := fun c ob q hx => by
    obtain ⟨o', e1⟩ := a.there c ob q hx
    exact b.there c o' e1 hx
  tups := fun c xs q => b.tups c xs (a.tups c xs q)
  frzs := fun c ob xs q => b.frzs c ob xs (a.frzs c ob xs q)
  tbls := fun c ps q => by
    obtain ⟨m1, e1⟩ := a.tbls c ps q
    obtain ⟨m2, e2⟩ := b.tbls c _ e1
    exact ⟨m1 ++ m2, by rw [e2, Array.append_assoc]⟩
theorem Un.kept (k : ∀ b u, h.get? b = some u → h'.get? b = some u) : Un fs ex H H h h' :=
  ⟨fun b ob q _ _ _ => k b ob q, fun b ob q _ _ _ => ⟨ob.slots, k b ob q⟩, fun _ _ _ n _ => n, fun b ob q _ => ⟨ob, k b ob q⟩, fun _ _ q => q, fun _ _ _ q => q, fun _ ps q => ⟨#[], by rw [q]; simp⟩⟩
theorem Un.refl : Un fs ex H H h h := Un.kept fun _ _ q => q
theorem Un.laid (k : ∀ b u, h.get? b = some u → h'.get? b = some u) (hp : h.objs.size ≤ a) (hn : H a = none) : Un fs ex H (upd H a o) h h' where
  keep := fun b u q _ _ _ => k b u q
  slot := fun b u q _ _ _ => ⟨u.slots, k b u q⟩
  free := fun b u q n _ => by rw [upd_ne (Nat.ne_of_lt (Nat.lt_of_lt_of_le (Heap.lt_size q) hp))]; exact n
  there := fun b u q _ => ⟨u, k b u q⟩
  tups := fun b xs q => by rw [upd_ne (ne_of_none q hn)]; exact q
  frzs := fun b u xs q => by rw [upd_ne (ne_of_none q hn)]; exact q
  tbls := fun b ps q => ⟨#[], by rw [upd_ne (ne_of_none q hn), q]; simp⟩
theorem Un.write (mu : Mut (H x)) (he : e = x ∨ H e = some (.own x)) (k : ∀ b u, b ≠ e → h.get? b = some u → h'.get? b = some u) (heo : ∃ u, h'.get? e = some u) : Un fs ex H (upd H x o) h h' := by
  have hx : ∀ b, H b = none → b ≠ x := fun b n z => by subst z; rw [n] at mu; exact mu
  have hb : ∀ b, H b = none → b ≠ e := fun b n z => by
    subst z
    rcases he with r | r
    · exact hx b n r
    · rw [n] at r; cases r
  have hm : ∀ b u, H b = some u → ¬ Mut (some u) → b ≠ x := fun b u q nm z => by subst z; rw [q] at mu; exact nm mu
  refine ⟨fun b u q n _ _ => k b u (hb b n) q, fun b u q n _ _ => ⟨u.slots, k b u (hb b n) q⟩, fun b u q n _ => by rw [upd_ne (hx b n)]; exact n, fun b u q _ => ?_,
    fun b xs q => by rw [upd_ne (hm b _ q fun z => z)]; exact q, fun b u xs q => by rw [upd_ne (hm b _ q fun z => z)]; exact q, fun b ps q => ⟨#[], by rw [upd_ne (hm b _ q fun z => z), q]; simp⟩⟩
  by_cases hbe : b = e
  · subst hbe; exact heo
  · exact ⟨u, k b u hbe q⟩
end

/-! ### the heap without what is tracked -/
def trk (h : Heap) (H : Hp) : List Addr := (List.range h.objs.size).filter fun a => (H a).isSome
def hidT (h : Heap) (H : Hp) : Heap := PySem.W.hideAll h (trk h H)
theorem hidT_size (h : Heap) (H : Hp) : (hidT h H).objs.size = h.objs.size := PySem.W.hideAll_size _ _
theorem hidT_get {h : Heap} {H : Hp} {b : Addr} {o : Obj} (e : h.get? b = some o) (n : H b = none) : (hidT h H).get? b = some o :=
  PySem.W.hideAll_get _ e fun hm => by
    have q : (H b).isSome = true := (List.mem_filter.mp hm).2
    rw [n] at q; simp at q
theorem of_hidT {h : Heap} {H : Hp} {b : Addr} {o : Obj} (e : (hidT h H).get? b = some o) : h.get? b = some o ∧ H b = none := by
  have e' : h.get? b = some o := PySem.W.of_hideAll (trk h H) e
  refine ⟨e', ?_⟩
  cases q : H b with
  | none => rfl
  | some x =>
    have hm : b ∈ trk h H := List.mem_filter.mpr ⟨List.mem_range.mpr (Heap.lt_size e'), by simp [q]⟩
    have z : (hidT h H).get? b = none := PySem.W.hideAll_none (trk h H) hm
    rw [z] at e; cases e

/-! ### OpenK's ledger, filled with every new object but one -/
def allNews (g h : Heap) (L : Addr) : List (Addr × Obj) := (List.range h.objs.size).filterMap fun a => if a = L ∨ (g.get? a).isSome = true then none else (h.get? a).map fun o => (a, o)
def rest (g h : Heap) (L d : Addr) : List (Addr × Obj) := (allNews g h L).filter fun p => decide (p.1 ≠ d)
end L2

namespace L2
open PySem PySem.Spec PyProof.Rows

/-- the module's facts, over the base: the heap at the law's entry without what is tracked there -/
structure Mod (K : PySem.W.Frag) (mg : Str → Option Value) (base : Heap) : Prop where
  kin : K.In base
  glob : base.Ns mainGlobals mg
  blt : ∃ mb, base.Ns builtinsNs mb ∧ ∀ x : Str, x ≠ "__name__" → mb x = bootBuiltins x
  nolimit : base.NoLimit

/-- the context: a def's body (or a comprehension's block) running. base: fixed through the whole law; s₀, H₀: the entry; outer: the frames whose slots others may change (a def's callers); stack: all frames that run;
   ex: iterators that were made ahead of the entry and are walked here (a comprehension's); fn: the names whose cells were made at the entry (a def: all; a comprehension's block: its own); calm: not within an except suite; pn: pins that every state bears; xe: what is wanted of an exception that leaves the code -/
structure Cx where
  prog : Program
  w : World
  K : PySem.W.Frag
  mg : Str → Option Value
  base : Heap
  A : Around
  N : List Str
  s₀ : Shared
  H₀ : Hp
  env : Env
  outer : List Env
  stack : List Env
  ex : List Addr
  fn : Str → Bool
  calm : Bool
  pn : List (Addr × Obj)
  xe : Value → Shared → Prop
/-- the callers' frames -/
def frs (l : List Env) : List Addr := l.filterMap (·.frame)
abbrev Cx.fs (X : Cx) : List Addr := frs X.outer

def Vis (sc : Scope) (x : Str) : Prop := sc.names.lookup x = some .local ∨ sc.names.lookup x = some .cell ∨ sc.names.lookup x = some .free
def Loc (sc : Scope) (x : Str) : Prop := sc.names.lookup x = some .local ∨ sc.names.lookup x = some .cell
def Look (env : Env) (h : Heap) (m : Str → Option Value) (x : Str) (u : Value) : Prop :=
  (env.kindOf x = some .local ∧ m x = some u) ∨ ((env.kindOf x = some .cell ∨ env.kindOf x = some .free) ∧ ∃ c, env.cells.lookup x = some c ∧ h.IsCell c (some u))

structure Cx.Ok (X : Cx) : Prop where
  mod : Mod X.K X.mg X.base
  kind : X.env.scope.kind = .function
  glob : X.env.globals = mainGlobals
  blt : X.env.builtins = builtinsNs
  above : X.s₀.heap.objs.size ≤ X.env.locals
  inj : ∀ x y c, X.env.cells.lookup x = some c → X.env.cells.lookup y = some c → x = y
  has : ∀ x, (X.env.kindOf x = some .cell ∨ X.env.kindOf x = some .free) → ∃ c, X.env.cells.lookup x = some c
  cab : ∀ x c, X.fn x = true → X.env.cells.lookup x = some c → X.s₀.heap.objs.size ≤ c
  hd : X.calm = true → X.A.handled = none
  frames : X.A.frames = some X.stack
  stk : X.stack = X.outer ∨ (X.stack = X.env :: X.outer ∧ X.env.frame = some X.env.locals)
  exf : ∀ b ∈ X.ex, b ≠ X.env.locals ∧ ∀ x c, X.env.cells.lookup x = some c → c ≠ b
  bs : ∀ b o, X.base.get? b = some o → X.s₀.heap.get? b = some o ∧ X.H₀ b = none
  bsz : X.base.objs.size ≤ X.s₀.heap.objs.size
  noex : ∀ b o, X.base.get? b = some o → b ∉ X.ex
  exfs : ∀ b ∈ X.ex, b ∉ X.fs
  funs : X.s₀.heap.FunFrames X.base X.outer
  frf : ∀ b ∈ X.fs, X.H₀ b = none

structure Inv (X : Cx) (pins : List (Addr × Obj)) (σ : List (Option V)) (H : Hp) (s : Shared) : Prop where
  ok : X.Ok
  os : s.os = X.s₀.os
  bare : AllBare s.gens
  base : Un X.fs X.ex X.H₀ H X.s₀.heap s.heap
  loc : ∃ m, s.heap.Ns X.env.locals m ∧ ∀ (i : Nat) (x : Str) (v : V), X.N[i]? = some x → σ[i]? = some (some v) → Vis X.env.scope x → ∃ u, RelV v u ∧ Look X.env s.heap m x u
  cell : ∀ x c, X.env.cells.lookup x = some c → ∃ v, s.heap.IsCell c v
  free : H X.env.locals = none
  freeC : ∀ x c, X.env.cells.lookup x = some c → H c = none
  pin : ∀ p ∈ X.pn ++ pins, s.heap.get? p.1 = some p.2 ∧ H p.1 = none ∧ p.1 ≠ X.env.locals ∧ p.1 ∉ X.fs ∧ ∀ v, p.2.data ≠ .cell v
  hok : HOk X.prog X.w H s.heap
  len : σ.length = X.N.length

section
variable {X : Cx} {pins : List (Addr × Obj)} {σ : List (Option V)} {H H' : Hp} {s : Shared} {h' : Heap}

theorem Cx.Ok.nofr (ok : X.Ok) {b : Addr} {o : Obj} (e : X.base.get? b = some o) : b ∉ X.fs := fun hb => by
  have := (ok.funs.mem hb).1
  rw [e] at this; cases this
theorem Inv.bs (I : Inv X pins σ H s) : ∀ b o, X.base.get? b = some o → s.heap.get? b = some o ∧ H b = none := fun b o e =>
  ⟨I.base.keep b o (I.ok.bs b o e).1 (I.ok.bs b o e).2 (I.ok.nofr e) (I.ok.noex b o e), I.base.free b o (I.ok.bs b o e).1 (I.ok.bs b o e).2 (I.ok.noex b o e)⟩
theorem Inv.bk (I : Inv X pins σ H s) : ∀ b o, X.base.get? b = some o → s.heap.get? b = some o := fun b o e => (I.bs b o e).1
theorem Inv.mod (I : Inv X pins σ H s) : Mod X.K X.mg X.base := I.ok.mod
theorem Inv.kIn (I : Inv X pins σ H s) : X.K.In s.heap := I.ok.mod.kin.keeps I.bk
theorem Inv.lt (I : Inv X pins σ H s) : X.env.locals < s.heap.objs.size := let ⟨_, hn, _⟩ := I.loc; hn.lt
theorem Inv.sz (I : Inv X pins σ H s) : X.s₀.heap.objs.size ≤ s.heap.objs.size := Nat.le_trans I.ok.above (Nat.le_of_lt I.lt)
theorem Inv.nofs (I : Inv X pins σ H s) {a : Addr} (h : s.heap.objs.size ≤ a) : a ∉ X.fs := fun hb => by
  obtain ⟨_, o, ho, _⟩ := I.ok.funs.mem hb
  exact absurd (Nat.lt_of_lt_of_le (Heap.lt_size ho) (Nat.le_trans I.sz h)) (Nat.lt_irrefl _)
theorem Inv.cne (I : Inv X pins σ H s) : ∀ x c, X.env.cells.lookup x = some c → c ≠ X.env.locals := fun x c e z => by
  obtain ⟨v, o, ho, hd⟩ := I.cell x c e
  obtain ⟨m, ⟨o', es, ep, ho', hd', _⟩, _⟩ := I.loc
  rw [z, ho'] at ho; cases ho; rw [hd'] at hd; cases hd
theorem Inv.funs (I : Inv X pins σ H s) : s.heap.FunFrames X.base X.outer := by
  have all : ∀ (l : List Env), (∀ b ∈ frs l, b ∈ X.fs) → X.s₀.heap.FunFrames X.base l → s.heap.FunFrames X.base l := by
    intro l
    induction l with
    | nil => intro _ _; trivial
    | cons env r ih =>
      intro hs hl
      obtain ⟨hk, ⟨L, o, hf, hn, ho, hd⟩, hr⟩ := hl
      have hL : L ∈ X.fs := hs L (by unfold frs; rw [List.filterMap_cons, hf]; exact List.mem_cons_self)
      obtain ⟨sl, e⟩ := I.base.slot L o ho (I.ok.frf L hL) hL fun z => I.ok.exfs L z hL
      exact ⟨hk, ⟨L, _, hf, hn, e, hd⟩, ih (fun b hb => hs b (by unfold frs; rw [List.filterMap_cons, hf]; exact List.mem_cons_of_mem _ hb)) hr⟩
  exact all X.outer (fun _ hb => hb) I.ok.funs

/-- the frames that run, for a call -/
theorem Inv.stack (I : Inv X pins σ H s) : s.heap.FunFrames X.base X.stack := by
  rcases I.ok.stk with e | ⟨e, hf⟩
  · rw [e]; exact I.funs
  · rw [e]
    obtain ⟨m, hn, _⟩ := I.loc
    refine .cons (by rw [I.ok.kind]; decide) hf hn ?_ I.funs
    exact Heap.get?_none_of_le (Nat.le_trans I.ok.bsz I.ok.above)
theorem Inv.stkSub (I : Inv X pins σ H s) : ∀ b ∈ frs X.stack, b ∈ X.env.locals :: X.fs := fun b hb => by
  rcases I.ok.stk with e | ⟨e, hf⟩
  · rw [e] at hb; exact List.mem_cons_of_mem _ hb
  · rw [e] at hb
    unfold frs at hb
    rw [List.filterMap_cons, hf] at hb
    exact hb
theorem Inv.stkFree (I : Inv X pins σ H s) : ∀ b ∈ frs X.stack, H b = none := fun b hb => by
  rcases List.mem_cons.mp (I.stkSub b hb) with e | hb
  · rw [e]; exact I.free
  · obtain ⟨_, o, ho, _⟩ := I.ok.funs.mem hb
    exact I.base.free b o ho (I.ok.frf b hb) fun z => I.ok.exfs b z hb

/-- THE STEP: the untracked objects but the frame and the records at ch are kept (the callers' frames up to slots), the frame's map is kept, the new abstract heap is held -/
theorem Inv.step {g' : Array GenState} {t' : Nat} {d' : Drawn} {ch : List Addr} (I : Inv X pins σ H s)
    (hch : ∀ b ∈ ch, (b ∈ X.ex ∨ X.s₀.heap.objs.size ≤ b) ∧ b ≠ X.env.locals ∧ (∀ x c, X.env.cells.lookup x = some c → c ≠ b) ∧ ∀ p ∈ X.pn ++ pins, p.1 ≠ b)
    (keep : ∀ b o, b ≠ X.env.locals → b ∉ X.fs → b ∉ ch → s.heap.get? b = some o → H b = none → h'.get? b = some o)
    (slot : ∀ b o, b ≠ X.env.locals → b ∈ X.fs → b ∉ ch → s.heap.get? b = some o → H b = none → ∃ sl, h'.get? b = some { o with slots := sl }) (free : ∀ b o, b ∉ ch → s.heap.get? b = some o → H b = none → H' b = none)
    (there : ∀ b o, b ∉ ch → s.heap.get? b = some o → ∃ o', h'.get? b = some o')
    (tups : ∀ b xs, H b = some (.tup xs) → H' b = some (.tup xs)) (frzs : ∀ b o u, H b = some (.frz o u) → H' b = some (.frz o u)) (tbls : ∀ b ps, H b = some (.tbl ps) → ∃ more, H' b = some (.tbl (ps ++ more)))
    (ns : ∀ m, s.heap.Ns X.env.locals m → h'.Ns X.env.locals m) (hok : HOk X.prog X.w H' h') (hg : AllBare g') :
    Inv X pins σ H' { s with heap := h', gens := g', drawn := d', toks := t' } := by
  have neL : ∀ b o, X.s₀.heap.get? b = some o → b ≠ X.env.locals := fun b o e => Nat.ne_of_lt (Nat.lt_of_lt_of_le (Heap.lt_size e) I.ok.above)
  have neC : ∀ b o, X.s₀.heap.get? b = some o → b ∉ X.ex → b ∉ ch := fun b o e hx hb => by
    rcases (hch b hb).1 with z | z
    · exact hx z
    · exact absurd (Nat.lt_of_lt_of_le (Heap.lt_size e) z) (Nat.lt_irrefl _)
  have cellK : ∀ x c, X.env.cells.lookup x = some c → ∀ v, s.heap.IsCell c v → h'.IsCell c v := fun x c e v ⟨o, ho, hd⟩ => by
    have nch : c ∉ ch := fun z => (hch c z).2.2.1 x c e rfl
    by_cases hc : c ∈ X.fs
    · obtain ⟨sl, q⟩ := slot c o (I.cne x c e) hc nch ho (I.freeC x c e)
      exact ⟨_, q, hd⟩
    · exact ⟨o, keep c o (I.cne x c e) hc nch ho (I.freeC x c e), hd⟩
  refine ⟨I.ok, I.os, hg, ⟨fun b o e n hb hx => ?_, fun b o e n hb hx => ?_, fun b o e n hx => ?_, fun b o e hx => ?_, fun b xs e => tups b xs (I.base.tups b xs e), fun b o xs e => frzs b o xs (I.base.frzs b o xs e), fun b ps e => ?_⟩, ?_, fun x c e => ?_, ?_, fun x c e => ?_, fun p hp => ?_, hok, I.len⟩
  · exact keep b o (neL b o e) hb (neC b o e hx) (I.base.keep b o e n hb hx) (I.base.free b o e n hx)
  · obtain ⟨sl, e1⟩ := I.base.slot b o e n hb hx
    obtain ⟨sl', e2⟩ := slot b _ (neL b o e) hb (neC b o e hx) e1 (I.base.free b o e n hx)
    exact ⟨sl', e2⟩
  · obtain ⟨o', e1⟩ := I.base.there b o e hx
    exact free b o' (neC b o e hx) e1 (I.base.free b o e n hx)
  · obtain ⟨o', e1⟩ := I.base.there b o e hx
    exact there b o' (neC b o e hx) e1
  · obtain ⟨m1, e1⟩ := I.base.tbls b ps e
    obtain ⟨m2, e2⟩ := tbls b _ e1
    exact ⟨m1 ++ m2, by rw [e2, Array.append_assoc]⟩
  · obtain ⟨m, hn, hl⟩ := I.loc
    refine ⟨m, ns m hn, fun i x v e1 e2 e3 => ?_⟩
    obtain ⟨u, r, l⟩ := hl i x v e1 e2 e3
    refine ⟨u, r, ?_⟩
    rcases l with l | ⟨k, c, e, z⟩
    · exact .inl l
    · exact .inr ⟨k, c, e, cellK x c e _ z⟩
  · obtain ⟨v, z⟩ := I.cell x c e
    exact ⟨v, cellK x c e v z⟩
  · obtain ⟨m, ⟨o, _, _, ho, _⟩, _⟩ := I.loc
    exact free _ o (fun z => (hch _ z).2.1 rfl) ho I.free
  · obtain ⟨v, o, ho, hd⟩ := I.cell x c e
    exact free c o (fun z => (hch c z).2.2.1 x c e rfl) ho (I.freeC x c e)
  · obtain ⟨e, n, ne, nf, d⟩ := I.pin p hp
    have nch : p.1 ∉ ch := fun z => (hch p.1 z).2.2.2 p hp rfl
    exact ⟨keep p.1 p.2 ne nf nch e n, free p.1 p.2 nch e n, ne, nf, d⟩
/-- .. where the frame's own object is kept too -/
theorem Inv.un {t' : Nat} (I : Inv X pins σ H s) (u : Un X.fs [] H H' s.heap h') (hok : HOk X.prog X.w H' h') : Inv X pins σ H' { s with heap := h', toks := t' } := by
  obtain ⟨m, ⟨o, es, ep, ho, r⟩, _⟩ := id I.loc
  obtain ⟨sl, hL⟩ := u.any ho I.free (by simp)
  exact I.step (g' := s.gens) (d' := s.drawn) (ch := []) (fun _ z => nomatch z) (fun b o _ hb _ e n => u.keep b o e n hb (by simp)) (fun b o _ hb _ e n => u.slot b o e n hb (by simp)) (fun b o _ e n => u.free b o e n (by simp)) (fun b o _ e => u.there b o e (by simp)) u.tups u.frzs u.tbls (fun m' hm => by
    obtain ⟨o', es', ep', ho', r'⟩ := hm
    rw [ho] at ho'; cases ho'
    exact ⟨_, es', ep', hL, r'⟩) hok I.bare
/-- behind a call (or a comprehension's block): the slots of this frame may have changed too, the records at ch may have turned -/
theorem Inv.call {g' : Array GenState} {t' : Nat} {d' : Drawn} {ch : List Addr} (I : Inv X pins σ H s) (u : Un (frs X.stack) ch H H' s.heap h') (hok : HOk X.prog X.w H' h') (hg : AllBare g')
    (hch : ∀ b ∈ ch, (b ∈ X.ex ∨ X.s₀.heap.objs.size ≤ b) ∧ b ≠ X.env.locals ∧ (∀ x c, X.env.cells.lookup x = some c → c ≠ b) ∧ ∀ p ∈ X.pn ++ pins, p.1 ≠ b) :
    Inv X pins σ H' { s with heap := h', gens := g', drawn := d', toks := t' } := by
  obtain ⟨m, ⟨o, es, ep, ho, r⟩, _⟩ := id I.loc
  obtain ⟨sl, hL⟩ := u.any ho I.free fun z => (hch _ z).2.1 rfl
  exact I.step (ch := ch) hch (fun b o hL hb hc e n => u.keep b o e n (fun z => (List.mem_cons.mp (I.stkSub b z)).elim hL hb) hc) (fun b o _ _ hc e n => u.any e n hc) (fun b o hc e n => u.free b o e n hc) (fun b o hc e => u.there b o e hc) u.tups u.frzs u.tbls (fun m' hm => by
    obtain ⟨o', es', ep', ho', r'⟩ := hm
    rw [ho] at ho'; cases ho'
    exact ⟨_, es', ep', hL, r'⟩) hok hg
/-- an untracked record of ours (an iterator) has turned -/
theorem Inv.turned {t' : Nat} {it : Addr} (I : Inv X pins σ H s) (k : ∀ b o, b ≠ it → s.heap.get? b = some o → h'.get? b = some o) (hn : H it = none) (hL : it ≠ X.env.locals)
    (h1 : it ∈ X.ex ∨ X.s₀.heap.objs.size ≤ it) (h2 : ∀ x c, X.env.cells.lookup x = some c → c ≠ it) (h3 : ∀ p ∈ X.pn ++ pins, p.1 ≠ it) : Inv X pins σ H { s with heap := h', toks := t' } := by
  have nit : ∀ b u, H b = some u → b ≠ it := fun b u e z => by rw [z, hn] at e; cases e
  refine I.step (g' := s.gens) (d' := s.drawn) (ch := [it]) (fun b hb => ?_) (fun b o _ _ hc e _ => k b o (fun z => hc (by simp [z])) e) (fun b o _ _ hc e _ => ⟨o.slots, k b o (fun z => hc (by simp [z])) e⟩) (fun _ _ _ _ n => n)
    (fun b o hc e => ⟨o, k b o (fun z => hc (by simp [z])) e⟩) (fun _ _ e => e) (fun _ _ _ e => e) (fun b ps e => ⟨#[], by rw [e]; simp⟩) (fun m hm => ?_) (fun b u e => ?_) I.bare
  · have e : b = it := by simpa using hb
    subst e
    exact ⟨h1, hL, h2, h3⟩
  · obtain ⟨o, es, ep, ho, r⟩ := hm
    exact ⟨o, es, ep, k _ o (Ne.symm hL) ho, r⟩
  · refine (I.hok b u e).stay (fun c v hc q => k c v ?_ q) (fun _ q => q) fun _ _ q => q
    rcases hc with z | z
    · rw [z]; exact nit b u e
    · exact nit c _ z
theorem Inv.tok (I : Inv X pins σ H s) (t : Nat) : Inv X pins σ H { s with toks := t } := I.un (h' := s.heap) (t' := t) Un.refl I.hok
/-- all objects kept -/
theorem Inv.kept {t' : Nat} (I : Inv X pins σ H s) (k : ∀ b u, s.heap.get? b = some u → h'.get? b = some u) : Inv X pins σ H { s with heap := h', toks := t' } := I.un (Un.kept k) (I.hok.kept k)
/-- a new object laid and tracked -/
theorem Inv.laid {a : Addr} {o : HO} {t' : Nat} (I : Inv X pins σ H s) (k : ∀ b u, s.heap.get? b = some u → h'.get? b = some u) (hp : s.heap.objs.size ≤ a) (new : ObjOk X.prog X.w (upd H a o) h' a o) :
    Inv X pins σ (upd H a o) { s with heap := h', toks := t' } := I.un (Un.laid k hp (I.hok.fresh hp)) (I.hok.laid k hp new)
/-- an object written -/
theorem Inv.write {x e : Addr} {o : HO} {t' : Nat} (I : Inv X pins σ H s) (mu : Mut (H x)) (he : e = x ∨ H e = some (.own x)) (k : ∀ b u, b ≠ e → s.heap.get? b = some u → h'.get? b = some u) (heo : ∃ u, h'.get? e = some u)
    (new : ObjOk X.prog X.w (upd H x o) h' x o) : Inv X pins σ (upd H x o) { s with heap := h', toks := t' } := I.un (Un.write mu he k heo) (I.hok.write mu he k heo new)
theorem Inv.pins_of {pins' : List (Addr × Obj)} (I : Inv X pins σ H s) (h : ∀ p ∈ pins', s.heap.get? p.1 = some p.2 ∧ H p.1 = none ∧ p.1 ≠ X.env.locals ∧ p.1 ∉ X.fs ∧ ∀ v, p.2.data ≠ .cell v) : Inv X pins' σ H s :=
  ⟨I.ok, I.os, I.bare, I.base, I.loc, I.cell, I.free, I.freeC, fun p hp => (List.mem_append.mp hp).elim (fun z => I.pin p (List.mem_append_left _ z)) (h p), I.hok, I.len⟩

theorem nodup_ix {N : List Str} (hN : N.Nodup) {i j : Nat} {x : Str} (a : N[i]? = some x) (b : N[j]? = some x) : i = j := by
  obtain ⟨h1, e1⟩ := List.getElem?_eq_some_iff.mp a
  obtain ⟨h2, e2⟩ := List.getElem?_eq_some_iff.mp b
  exact (List.getElem_inj hN).mp (e1.trans e2.symm)

/-- a name is stored; what changed -/
theorem store_ok2 {M : Model} {A : Around} {E : Value → Shared → Prop} {i : Nat} {x : Str} {v : V} {u : Value} {Q : Unit → Shared → Prop} (I : Inv X pins σ H s) (hN : X.N.Nodup) (hi : X.N[i]? = some x) (hx : Loc X.env.scope x) (r : RelV v u)
    (h : ∀ s', Inv X pins (σ.set i (some v)) H s' → (∃ a, Heap.SameBut a s.heap s'.heap ∧ (a = X.env.locals ∨ X.env.cells.lookup x = some a)) → Q () s') (hf : X.fn x = true ∨ X.env.scope.names.lookup x = some .local := by first | exact .inl rfl | exact .inr rfl | assumption) : wpAny M A (storeName X.env x u) Q E s := by
  obtain ⟨m, hn, hl⟩ := id I.loc
  have hcls : (X.env.scope.kind == .class || (X.env.scope.kind == .module && X.env.locals != X.env.globals)) = false := by rw [I.ok.kind]; rfl
  have hiσ : i < σ.length := by rw [I.len]; exact (List.getElem?_eq_some_iff.mp hi).1
  have cne := I.cne
  have tracked : ∀ {a : Addr} {h' : Heap}, (∃ o, s.heap.get? a = some o ∧ H a = none) → Heap.SameBut a s.heap h' → HOk X.prog X.w H h' := fun {a h'} ha hs b ob e => by
    obtain ⟨_, _, hfree⟩ := ha
    refine (I.hok b ob e).stay (fun c w' hc q => (hs.2 c ?_).trans q) (fun _ q => q) fun _ _ q => q
    rintro rfl
    rcases hc with rfl | hc
    · rw [hfree] at e; cases e
    · rw [hfree] at hc; cases hc
  rcases hx with hk | hk
  · refine wpAny_storeName_local hk hn (fun h' hn' hs => ?_) hcls
    obtain ⟨oL, _, _, hoL, _⟩ := id hn
    refine h _ ⟨I.ok, I.os, I.bare, ⟨fun b o e n hb hx => ?_, fun b o e n hb hx => ?_, I.base.free, fun b o e hx => ?_, I.base.tups, I.base.frzs, I.base.tbls⟩, ⟨_, hn', fun j y v' e1 e2 e3 => ?_⟩, fun y c e => ?_, I.free, I.freeC, fun p hp => ?_, tracked ⟨oL, hoL, I.free⟩ hs, by simpa using I.len⟩ ⟨_, hs, .inl rfl⟩
    · exact (hs.2 b (Nat.ne_of_lt (Nat.lt_of_lt_of_le (Heap.lt_size e) I.ok.above))).trans (I.base.keep b o e n hb hx)
    · obtain ⟨sl, e1⟩ := I.base.slot b o e n hb hx
      exact ⟨sl, (hs.2 b (Nat.ne_of_lt (Nat.lt_of_lt_of_le (Heap.lt_size e) I.ok.above))).trans e1⟩
    · obtain ⟨o', e1⟩ := I.base.there b o e hx
      exact ⟨o', (hs.2 b (Nat.ne_of_lt (Nat.lt_of_lt_of_le (Heap.lt_size e) I.ok.above))).trans e1⟩
    · by_cases hj : j = i
      · subst hj
        rw [hi] at e1; cases e1
        rw [List.getElem?_set_self hiσ] at e2
        cases e2
        exact ⟨u, r, .inl ⟨hk, by simp⟩⟩
      · rw [List.getElem?_set_ne (Ne.symm hj)] at e2
        obtain ⟨u', r', q⟩ := hl j y v' e1 e2 e3
        refine ⟨u', r', ?_⟩
        rcases q with ⟨k, e⟩ | ⟨k, c, e, z⟩
        · refine .inl ⟨k, ?_⟩
          have : y ≠ x := fun e => hj (nodup_ix hN e1 (e ▸ hi))
          simp [this, e]
        · exact .inr ⟨k, c, e, z.sameBut hs (cne y c e)⟩
    · obtain ⟨w', z⟩ := I.cell y c e
      exact ⟨w', z.sameBut hs (cne y c e)⟩
    · obtain ⟨e, n, ne, nf, d⟩ := I.pin p hp
      exact ⟨(hs.2 p.1 ne).trans e, n, ne, nf, d⟩
  · have hfn : X.fn x = true := by
      rcases hf with z | z
      · exact z
      · rw [z] at hk; cases hk
    obtain ⟨c, hc⟩ := I.ok.has x (.inl hk)
    obtain ⟨w', z⟩ := I.cell x c hc
    refine wpAny_storeName_cell I.ok.kind hk hc z (fun h' hc' hs => ?_)
    obtain ⟨oc, hoc, hocd⟩ := id z
    refine h { s with heap := h' } ⟨I.ok, I.os, I.bare, ⟨fun b o e n hb hx => ?_, fun b o e n hb hx => ?_, I.base.free, fun b o e hx => ?_, I.base.tups, I.base.frzs, I.base.tbls⟩, ⟨m, hn.sameBut hs (Ne.symm (cne x c hc)), fun j y v' e1 e2 e3 => ?_⟩, fun y c' e => ?_, I.free, I.freeC, fun p hp => ?_, tracked ⟨oc, hoc, I.freeC x c hc⟩ hs, by simpa using I.len⟩ ⟨c, hs, .inr hc⟩
    · exact (hs.2 b (Nat.ne_of_lt (Nat.lt_of_lt_of_le (Heap.lt_size e) (I.ok.cab x c hfn hc)))).trans (I.base.keep b o e n hb hx)
    · obtain ⟨sl, e1⟩ := I.base.slot b o e n hb hx
      exact ⟨sl, (hs.2 b (Nat.ne_of_lt (Nat.lt_of_lt_of_le (Heap.lt_size e) (I.ok.cab x c hfn hc)))).trans e1⟩
    · obtain ⟨o', e1⟩ := I.base.there b o e hx
      exact ⟨o', (hs.2 b (Nat.ne_of_lt (Nat.lt_of_lt_of_le (Heap.lt_size e) (I.ok.cab x c hfn hc)))).trans e1⟩
    · by_cases hj : j = i
      · subst hj
        rw [hi] at e1; cases e1
        rw [List.getElem?_set_self hiσ] at e2
        cases e2
        exact ⟨u, r, .inr ⟨.inl hk, c, hc, hc'⟩⟩
      · rw [List.getElem?_set_ne (Ne.symm hj)] at e2
        obtain ⟨u', r', q⟩ := hl j y v' e1 e2 e3
        refine ⟨u', r', ?_⟩
        rcases q with q | ⟨k, c', e, z'⟩
        · exact .inl q
        · refine .inr ⟨k, c', e, z'.sameBut hs ?_⟩
          rintro rfl
          exact hj (nodup_ix hN e1 (I.ok.inj _ _ _ e hc ▸ hi))
    · by_cases hcc : c' = c
      · subst hcc; exact ⟨_, hc'⟩
      · obtain ⟨w2, z2⟩ := I.cell y c' e
        exact ⟨w2, z2.sameBut hs hcc⟩
    · obtain ⟨e, n, ne, nf, d⟩ := I.pin p hp
      refine ⟨(hs.2 p.1 ?_).trans e, n, ne, nf, d⟩
      intro q
      rw [q, hoc] at e
      have q' : oc = p.2 := Option.some.inj e
      exact d w' (by rw [← q']; exact hocd)
theorem store_ok {M : Model} {A : Around} {E : Value → Shared → Prop} {i : Nat} {x : Str} {v : V} {u : Value} {Q : Unit → Shared → Prop} (I : Inv X pins σ H s) (hN : X.N.Nodup) (hi : X.N[i]? = some x) (hx : Loc X.env.scope x) (r : RelV v u)
    (h : ∀ s', Inv X pins (σ.set i (some v)) H s' → Q () s') (hf : X.fn x = true ∨ X.env.scope.names.lookup x = some .local := by first | exact .inl rfl | exact .inr rfl | assumption) : wpAny M A (storeName X.env x u) Q E s :=
  store_ok2 I hN hi hx r (fun s' I' _ => h s' I') hf
/-- behind a call or a block, the state as it is -/
theorem Inv.call' {s' : Shared} {ch : List Addr} (I : Inv X pins σ H s) (ho : s'.os = s.os) (u : Un (frs X.stack) ch H H' s.heap s'.heap) (hok : HOk X.prog X.w H' s'.heap) (hg : AllBare s'.gens)
    (hch : ∀ b ∈ ch, (b ∈ X.ex ∨ X.s₀.heap.objs.size ≤ b) ∧ b ≠ X.env.locals ∧ (∀ x c, X.env.cells.lookup x = some c → c ≠ b) ∧ ∀ p ∈ X.pn ++ pins, p.1 ≠ b) : Inv X pins σ H' s' := by
  obtain ⟨h', g', d', t', o'⟩ := s'
  have e : o' = s.os := ho
  subst e
  exact I.call (g' := g') (t' := t') (d' := d') u hok hg hch
end

/-! ### the judgements -/
/-- an exception: its class, its own dict's address (where it has one), the abstract heap behind it -/
abbrev XK := Value → Option Addr → Hp → Prop
abbrev St := List (Option V)
abbrev VK := V → Hp → Prop
/-- an expression's reading; a test's; an argument list's -/
abbrev TE := St → Hp → VK → Prop
abbrev TT := St → Hp → (Bool → Hp → Prop) → Prop
abbrev TA := St → Hp → (List V → Hp → Prop) → Prop
/-- what is wanted behind a statement -/
structure Ends where
  nx : St → Hp → Prop
  rt : VK
  bk : St → Hp → Prop := fun _ _ => False
  ct : St → Hp → Prop := fun _ _ => False
abbrev TS := Ends → St → Hp → Prop

def EP (X : Cx) (pins : List (Addr × Obj)) (σ : St) (Q : VK) (u : Value) (s' : Shared) : Prop := ∃ v H', Inv X pins σ H' s' ∧ RelV v u ∧ Q v H'
def TP (X : Cx) (pins : List (Addr × Obj)) (σ : St) (Q : Bool → Hp → Prop) (b : Bool) (s' : Shared) : Prop := ∃ H', Inv X pins σ H' s' ∧ Q b H'
def AP (X : Cx) (pins : List (Addr × Obj)) (σ : St) (Q : List V → Hp → Prop) (us : List Value) (s' : Shared) : Prop := ∃ vs H', Inv X pins σ H' s' ∧ Vals vs us ∧ Q vs H'
def SP (X : Cx) (pins : List (Addr × Obj)) (D : Ends) (f : Flow) (s' : Shared) : Prop :=
  match f with
  | .next => ∃ σ' H', Inv X pins σ' H' s' ∧ D.nx σ' H'
  | .brk => ∃ σ' H', Inv X pins σ' H' s' ∧ D.bk σ' H'
  | .cont => ∃ σ' H', Inv X pins σ' H' s' ∧ D.ct σ' H'
  | .ret u => ∃ v σ' H', Inv X pins σ' H' s' ∧ RelV v u ∧ D.rt v H'

def PE (X : Cx) (e : Expr) (t : TE) : Prop :=
  ∀ (pins : List (Addr × Obj)) (s : Shared) (σ : St) (H : Hp) (Q : VK), Inv X pins σ H s → t σ H Q → wpAny (model X.prog X.w) X.A (eval e X.env) (EP X pins σ Q) X.xe s
def PT (X : Cx) (e : Expr) (t : TT) : Prop :=
  ∀ (pins : List (Addr × Obj)) (s : Shared) (σ : St) (H : Hp) (Q : Bool → Hp → Prop), Inv X pins σ H s → t σ H Q → wpAny (model X.prog X.w) X.A (isTrue e X.env (eval e X.env)) (TP X pins σ Q) X.xe s
/-- a test whatever its 'whole' is (and, or) -/
def PW (X : Cx) (e : Expr) (t : TT) : Prop :=
  ∀ (whole : Sem Value) (pins : List (Addr × Obj)) (s : Shared) (σ : St) (H : Hp) (Q : Bool → Hp → Prop), Inv X pins σ H s → t σ H Q → wpAny (model X.prog X.w) X.A (isTrue e X.env whole) (TP X pins σ Q) X.xe s
theorem PW.pt {X : Cx} {e : Expr} {t : TT} (h : PW X e t) : PT X e t := h _
/-- an argument list (no star), from the left -/
def PA (X : Cx) (es : List Expr) (t : TA) : Prop :=
  ∀ (pos : Pos) (pins : List (Addr × Obj)) (s : Shared) (σ : St) (H : Hp) (Q : List V → Hp → Prop), Inv X pins σ H s → t σ H Q → wpAny (model X.prog X.w) X.A (spliced (backTo pos (starEach es X.env))) (AP X pins σ Q) X.xe s
def PS (X : Cx) (st : Stmt) (t : TS) : Prop :=
  ∀ (pins : List (Addr × Obj)) (s : Shared) (σ : St) (H : Hp) (D : Ends), Inv X pins σ H s → t D σ H → wpAny (model X.prog X.w) X.A (exec st X.env) (SP X pins D) X.xe s
def PSs (X : Cx) (st : List Stmt) (t : TS) : Prop :=
  ∀ (pins : List (Addr × Obj)) (s : Shared) (σ : St) (H : Hp) (D : Ends), Inv X pins σ H s → t D σ H → wpAny (model X.prog X.w) X.A (execs st X.env) (SP X pins D) X.xe s
/-- weaken the end -/
theorem thn {α : Type} {t : Sem α} {Q Q' : α → Shared → Prop} {M : Model} {A : Around} {E : Value → Shared → Prop} {s : Shared} (h : wpAny M A t Q E s) (hQ : ∀ a s, Q a s → Q' a s) : wpAny M A t Q' E s := wpAny_mono h hQ fun _ _ x => x
end L2

namespace L2
open PySem PySem.Spec PyProof.Rows
section
variable {X : Cx}

/-- two expressions in a row -/
theorem bin {a b : Expr} {ta tb : TE} (ha : PE X a ta) (hb : PE X b tb) {pins : List (Addr × Obj)} {s : Shared} {σ : St} {H : Hp} {R : V → V → Hp → Prop} (I : Inv X pins σ H s) (h : ta σ H fun x H1 => tb σ H1 fun y H2 => R x y H2)
    {α : Type} {Q : α → Shared → Prop} {f : Value → Value → Sem α}
    (hf : ∀ v u s2 x y H2, Inv X pins σ H2 s2 → RelV x v → RelV y u → R x y H2 → wpAny (model X.prog X.w) X.A (f v u) Q X.xe s2) :
    wpAny (model X.prog X.w) X.A (eval a X.env) (fun v s₁ => wpAny (model X.prog X.w) X.A (eval b X.env) (fun u s₂ => wpAny (model X.prog X.w) X.A (f v u) Q X.xe s₂) X.xe s₁) X.xe s := by
  refine thn (ha pins s σ H _ I h) fun v s1 ⟨x, H1, I1, r1, q1⟩ => ?_
  refine thn (hb pins s1 σ H1 _ I1 q1) fun u s2 ⟨y, H2, I2, r2, q2⟩ => ?_
  exact hf v u s2 x y H2 I2 r1 r2 q2

/-! ### names and constants -/
def tVar (i : Nat) : TE := fun σ H Q => ∃ v, σ[i]? = some (some v) ∧ Q v H
def tC (v : V) : TE := fun _ H Q => Q v H
theorem pe_var {i : Nat} {x : Str} {pos : Pos} (hN : X.N[i]? = some x) (hv : Vis X.env.scope x) (hd : (x == ("__debug__" : Str)) = false := by decide) (hcd : (x == ("__classdict__" : Str)) = false := by decide) : PE X (.Name x pos) (tVar i) := by
  intro pins s σ H Q I h
  obtain ⟨v, e, h⟩ := h
  obtain ⟨m, hn, hl⟩ := I.loc
  obtain ⟨u, r, l⟩ := hl i x v hN e hv
  have fin : EP X pins σ Q u s := ⟨v, H, I, r, h⟩
  rcases l with ⟨hk, hm⟩ | ⟨hk, c, hc, hcell⟩
  · exact wpAny_Name (wpAny_loadName_local I.ok.kind hk hn hm fin) hd
  · rcases hk with hk | hk
    · exact wpAny_Name (wpAny_loadName_cell I.ok.kind hk hc hcell fin) hd
    · exact wpAny_Name (wpAny_loadName_free I.ok.kind hk hc hcell fin hcd) hd
theorem pe_int {i j pos} : PE X (.Constant (.int i) j pos) (tC (.int i)) := fun _ _ _ H _ I h => wpAny_Constant_int ⟨.int i, H, I.tok _, ⟨_, rfl⟩, h⟩
theorem pe_bl {b j pos} : PE X (.Constant (.bool b) j pos) (tC (.bl b)) := fun _ _ _ H _ I h => Constant_bool ⟨.bl b, H, I, rfl, h⟩
theorem pe_non {j pos} : PE X (.Constant .none j pos) (tC .non) := fun _ _ _ H _ I h => Constant_none ⟨.non, H, I, rfl, h⟩
theorem pe_str {x j pos} : PE X (.Constant (.str x) j pos) (tC (.str x)) := fun _ _ _ H _ I h => Calls.Constant_str ⟨.str x, H, I.tok _, ⟨_, rfl⟩, h⟩

/-- a global name of the def -/
def Gl (X : Cx) (x : Str) : Prop := X.env.kindOf x = some .globalImplicit
theorem ld_glob {E : Value → Shared → Prop} {pins : List (Addr × Obj)} {s : Shared} {σ : St} {H : Hp} {x : Str} {u : Value} {pos : Pos} {Q : Value → Shared → Prop} (I : Inv X pins σ H s) (hg : Gl X x) (hm : X.mg x = some u) (h : Q u s)
    (hd : (x == ("__debug__" : Str)) = false := by decide) : wpAny (model X.prog X.w) X.A (eval (.Name x pos) X.env) Q E s :=
  Calls.Name_function_global I.ok.kind hg (Calls.loadGlobal_global (by rw [I.ok.glob]; exact I.mod.glob.keeps I.bk) hm h) hd
theorem ld_blt {E : Value → Shared → Prop} {pins : List (Addr × Obj)} {s : Shared} {σ : St} {H : Hp} {x : Str} {u : Value} {pos : Pos} {Q : Value → Shared → Prop} (I : Inv X pins σ H s) (hg : Gl X x) (hm : X.mg x = none) (hv : bootBuiltins x = some u) (h : Q u s)
    (hn : x ≠ "__name__" := by decide) (hd : (x == ("__debug__" : Str)) = false := by decide) : wpAny (model X.prog X.w) X.A (eval (.Name x pos) X.env) Q E s := by
  obtain ⟨mb, h1, h2⟩ := I.mod.blt
  exact Calls.Name_function_global I.ok.kind hg (Calls.loadGlobal_builtin (by rw [I.ok.glob]; exact I.mod.glob.keeps I.bk) hm (by rw [I.ok.blt]; exact h1.keeps I.bk) ((h2 x hn).trans hv) h) hd
/-- a module's constant, a class, a function, as a value -/
theorem pe_glob {x : Str} {v : V} {u : Value} {pos : Pos} (hg : Gl X x) (hm : X.mg x = some u) (r : RelV v u) (hd : (x == ("__debug__" : Str)) = false := by decide) : PE X (.Name x pos) (tC v) :=
  fun _ _ _ H _ I h => ld_glob I hg hm ⟨v, H, I, r, h⟩ hd
theorem pe_bltn {x : Str} {v : V} {u : Value} {pos : Pos} (hg : Gl X x) (hm : X.mg x = none) (hv : bootBuiltins x = some u) (r : RelV v u) (hn : x ≠ "__name__" := by decide) (hd : (x == ("__debug__" : Str)) = false := by decide) : PE X (.Name x pos) (tC v) :=
  fun _ _ _ H _ I h => ld_blt I hg hm hv ⟨v, H, I, r, h⟩ hn hd

/-! ### arithmetic -/
/-- two ints -/
def t2I (ta tb : TE) (k : Int → Int → Hp → Prop) : St → Hp → Prop := fun σ H => ta σ H fun x H1 => tb σ H1 fun y H2 => ∃ i j, x = .int i ∧ y = .int j ∧ k i j H2
def tAdd (ta tb : TE) : TE := fun σ H Q => t2I ta tb (fun i j H2 => Q (.int (i + j)) H2) σ H
def tSub (ta tb : TE) : TE := fun σ H Q => t2I ta tb (fun i j H2 => Q (.int (i - j)) H2) σ H
/-- the left factor below 2^64 -/
def tMul (ta tb : TE) : TE := fun σ H Q => t2I ta tb (fun i j H2 => (-(2 ^ 64) < i ∧ i < 2 ^ 64) ∧ Q (.int (i * j)) H2) σ H
variable {a b : Expr} {ta tb : TE} {pos : Pos}
/-! ### comparisons -/
def PC (X : Cx) (op : CmpOp) (a b : Expr) (t : TE) : Prop :=
  ∀ (pins : List (Addr × Obj)) (s : Shared) (σ : St) (H : Hp) (Q : VK), Inv X pins σ H s → t σ H Q →
    wpAny (model X.prog X.w) X.A (eval a X.env) (fun v s₁ => wpAny (model X.prog X.w) X.A (eval b X.env) (fun u s₂ => wpAny (model X.prog X.w) X.A (compareOp op v u) (EP X pins σ Q) X.xe s₂) X.xe s₁) X.xe s
theorem nobehind (b : Expr) {op : CmpOp} (h : op ≠ .In) (h2 : op ≠ .NotIn) : behindInMarks op b = false := by
  have e1 : (op == CmpOp.In) = false := by cases op <;> first | rfl | exact absurd rfl h
  have e2 : (op == CmpOp.NotIn) = false := by cases op <;> first | rfl | exact absurd rfl h2
  cases b <;> simp [behindInMarks, e1, e2]
def tCmp (p : Int → Int → Bool) (ta tb : TE) : TE := fun σ H Q => t2I ta tb (fun i j H2 => Q (.bl (p i j)) H2) σ H
abbrev tLt : TE → TE → TE := tCmp fun i j => decide (i < j)
abbrev tLe : TE → TE → TE := tCmp fun i j => decide (i ≤ j)
abbrev tGt : TE → TE → TE := tCmp fun i j => decide (j < i)
abbrev tGe : TE → TE → TE := tCmp fun i j => decide (j ≤ i)
abbrev tEqI : TE → TE → TE := tCmp fun i j => decide (i = j)
abbrev tNeI : TE → TE → TE := tCmp fun i j => !decide (i = j)
/-- is None -/
def tIsN (ta : TE) : TE := fun σ H Q => ta σ H fun x H1 => Q (.bl (decide (x = .non))) H1
def tNotN (ta : TE) : TE := fun σ H Q => ta σ H fun x H1 => Q (.bl (!decide (x = .non))) H1
theorem RelV.none_iff {x : V} {v : Value} (r : RelV x v) : (v == Value.none) = decide (x = .non) := by
  cases x with
  | non => cases r; rfl
  | bl _ => cases r; rfl
  | int _ => obtain ⟨t, rfl⟩ := r; rfl
  | str _ => obtain ⟨t, rfl⟩ := r; rfl
  | byt _ => obtain ⟨t, rfl⟩ := r; rfl
  | flt _ => obtain ⟨t, rfl⟩ := r; rfl
  | ref _ => cases r; rfl
  | ty _ => cases r; rfl
theorem pc_isN {j pos'} (ha : PE X a ta) : PC X .Is a (.Constant .none j pos') (tIsN ta) := by
  intro pins s σ H Q I h
  refine thn (ha pins s σ H _ I h) fun v s1 ⟨x, H1, I1, r1, q1⟩ => ?_
  exact Constant_none (is_none_gen ⟨.bl _, H1, I1, by rw [r1.none_iff]; rfl, q1⟩)
/-- a comparison as a value, as a test -/
def tB (t : TE) : TT := fun σ H Q => t σ H fun x H1 => ∃ c, x = .bl c ∧ Q c H1
theorem pt_cmp {op : CmpOp} {t : TE} (h : PC X op a b t) (h1 : behindInMarks op b = false := by first | exact nobehind _ (by decide) (by decide) | rfl) : PT X (.Compare a [op] [b] pos) (tB t) := by
  intro pins s σ H Q I hw
  refine wpAny_isTrue_Compare1 (thn (h pins s σ H _ I hw) fun v s1 h1 => thn h1 fun u s2 h2 => thn h2 fun c s3 ⟨x, H1, I1, r1, q1⟩ => ?_) h1
  obtain ⟨d, rfl, q⟩ := q1
  cases r1
  exact wpAny_truthy_bool ⟨H1, I1, q⟩
/-- an expression whose value is a bool, as a test -/
theorem pt_val {e : Expr} {t : TE} (h : PE X e t) (he : ∀ whole, isTrue e X.env whole = (do let v ← whole; standAt e.pos; holding [v] (truthy v)) := by intro _; rfl) : PT X e (tB t) := by
  intro pins s σ H Q I hw
  refine isTrue_plain (thn (h pins s σ H _ I hw) fun v s1 ⟨x, H1, I1, r1, q1⟩ => ?_) (he _)
  obtain ⟨d, rfl, q⟩ := q1
  cases r1
  exact wpAny_truthy_bool ⟨H1, I1, q⟩

/-! ### and, or, not -/
variable {tA tB' : TT} {rest : List Expr}
def tAnd (t u : TT) : TT := fun σ H Q => t σ H fun c H1 => if c = true then u σ H1 Q else Q false H1
def tOr (t u : TT) : TT := fun σ H Q => t σ H fun c H1 => if c = true then Q true H1 else u σ H1 Q
def tNot (t : TT) : TT := fun σ H Q => t σ H fun c H1 => Q (!c) H1
theorem pw_and1 (ha : PT X a tA) : PW X (.BoolOp .And [a] pos) tA := by
  intro wh pins s σ H Q I h
  refine isTrue_and (thn (ha pins s σ H Q I h) fun c s1 e => ?_)
  cases c with
  | true => exact isTrue_and_nil e
  | false => exact e
theorem pw_or1 (ha : PT X a tA) : PW X (.BoolOp .Or [a] pos) tA := by
  intro wh pins s σ H Q I h
  refine isTrue_or (thn (ha pins s σ H Q I h) fun c s1 e => ?_)
  cases c with
  | false => exact isTrue_or_nil e
  | true => exact e
theorem pw_and (ha : PT X a tA) (hb : PW X (.BoolOp .And (b :: rest) pos) tB') : PW X (.BoolOp .And (a :: b :: rest) pos) (tAnd tA tB') := by
  intro wh pins s σ H Q I h
  refine isTrue_and (thn (ha pins s σ H _ I h) fun c s1 ⟨H1, I1, q1⟩ => ?_)
  cases c with
  | true => exact hb wh pins s1 σ H1 Q I1 q1
  | false => exact ⟨H1, I1, q1⟩
theorem pw_or (ha : PT X a tA) (hb : PW X (.BoolOp .Or (b :: rest) pos) tB') : PW X (.BoolOp .Or (a :: b :: rest) pos) (tOr tA tB') := by
  intro wh pins s σ H Q I h
  refine isTrue_or (thn (ha pins s σ H _ I h) fun c s1 ⟨H1, I1, q1⟩ => ?_)
  cases c with
  | true => exact ⟨H1, I1, q1⟩
  | false => exact hb wh pins s1 σ H1 Q I1 q1
theorem pt_not (ha : PT X a tA) : PT X (.UnaryOp .Not a pos) (tNot tA) := by
  intro pins s σ H Q I h
  exact isTrue_not (ha pins s σ H (fun c H1 => Q (!c) H1) I h)
/-- .. as values (bools) -/
def tAndV (ta tb : TE) : TE := fun σ H Q => ta σ H fun x H1 => ∃ c, x = .bl c ∧ if c = true then tb σ H1 Q else Q (.bl false) H1
def tOrV (ta tb : TE) : TE := fun σ H Q => ta σ H fun x H1 => ∃ c, x = .bl c ∧ if c = true then Q (.bl true) H1 else tb σ H1 Q
def tNotV (ta : TE) : TE := fun σ H Q => ta σ H fun x H1 => ∃ c, x = .bl c ∧ Q (.bl (!c)) H1
theorem pe_one {op} {t : TE} (h : PE X a t) : PE X (.BoolOp op [a] pos) t := fun pins s σ H Q I hw => BoolOp_one (h pins s σ H Q I hw)
theorem pe_and (ha : PE X a ta) (hb : PE X (.BoolOp .And (b :: rest) pos) tb) : PE X (.BoolOp .And (a :: b :: rest) pos) (tAndV ta tb) := by
  intro pins s σ H Q I h
  refine BoolOp_and (thn (ha pins s σ H _ I h) fun v s1 ⟨x, H1, I1, r1, q1⟩ => ?_)
  obtain ⟨c, rfl, q1⟩ := q1
  cases r1
  refine wpAny_truthy_bool ?_
  cases c with
  | true => exact hb pins s1 σ H1 Q I1 q1
  | false => exact ⟨.bl false, H1, I1, rfl, q1⟩
theorem pe_not (ha : PE X a ta) : PE X (.UnaryOp .Not a pos) (tNotV ta) := by
  intro pins s σ H Q I h
  refine UnaryOp_ (thn (ha pins s σ H _ I h) fun v s1 ⟨x, H1, I1, r1, q1⟩ => ?_)
  obtain ⟨c, rfl, q1⟩ := q1
  cases r1
  exact not_of (wpAny_truthy_bool ⟨.bl (!c), H1, I1, rfl, q1⟩)
/-- a if t else b -/
def tIf (t : TT) (ta tb : TE) : TE := fun σ H Q => t σ H fun c H1 => if c = true then ta σ H1 Q else tb σ H1 Q
theorem pe_ifExp {c : Expr} (hc : PT X c tA) (ha : PE X a ta) (hb : PE X b tb) : PE X (.IfExp c a b pos) (tIf tA ta tb) := by
  intro pins s σ H Q I h
  refine wpAny_IfExp (thn (hc pins s σ H _ I h) fun d s1 ⟨H1, I1, q1⟩ => ?_)
  cases d with
  | true => exact ha pins s1 σ H1 Q I1 q1
  | false => exact hb pins s1 σ H1 Q I1 q1
end
end L2

namespace L2
open PySem PySem.Spec PyProof.Rows

/-! ### a list, a tuple that is read: tracked, frozen, or an object of the module -/
def SqL (K : PySem.W.Frag) (H : Hp) (a : Addr) (xs : List V) : Prop :=
  Rd H a (.lst xs) ∨
    ∃ (o : Obj) (its : Array Value) (n : Nat), K.lookup a = some o ∧ o.cls = .type "list" ∧ o.dict = none ∧ o.data = .seq its n ∧ its.size ≤ sizeLine ∧ Vals xs its.toList
def SqT (K : PySem.W.Frag) (H : Hp) (a : Addr) (xs : List V) : Prop :=
  Rd H a (.tup xs) ∨
    ∃ (o : Obj) (its : Array Value) (n : Nat), K.lookup a = some o ∧ o.cls = .type "tuple" ∧ o.data = .seq its n ∧ its.size ≤ sizeLine ∧ Vals xs its.toList
def absV : Value → Option V
  | .none => some .non
  | .bool b => some (.bl b)
  | .int i _ => some (.int i)
  | .str x _ => some (.str x)
  | .bytes b _ => some (.byt b)
  | .float b _ => some (.flt b)
  | .ref a => some (.ref a)
  | .type n => some (.ty n)
  | _ => none
theorem RelV.abs {x : V} {u : Value} (r : RelV x u) : absV u = some x := by
  cases x with
  | non => cases r; rfl
  | bl _ => cases r; rfl
  | int _ => obtain ⟨t, rfl⟩ := r; rfl
  | str _ => obtain ⟨t, rfl⟩ := r; rfl
  | byt _ => obtain ⟨t, rfl⟩ := r; rfl
  | flt _ => obtain ⟨t, rfl⟩ := r; rfl
  | ref _ => cases r; rfl
  | ty _ => cases r; rfl
theorem RelV.inj {x y : V} {u : Value} (r : RelV x u) (q : RelV y u) : x = y := Option.some.inj (r.abs.symm.trans q.abs)
theorem Vals.inj : ∀ {xs ys : List V} {us : List Value}, Vals xs us → Vals ys us → xs = ys
  | _, _, _, .nil, .nil => rfl
  | _, _, _, .cons r t, .cons r' t' => by rw [r.inj r', Vals.inj t t']
section
variable {X : Cx} {pins : List (Addr × Obj)} {σ : St} {H : Hp} {s : Shared} {a : Addr} {xs ys : List V}
theorem SqL.of {K : PySem.W.Frag} (h : H a = some (.lst xs)) : SqL K H a xs := .inl (.inl h)
theorem SqT.of {K : PySem.W.Frag} (h : H a = some (.tup xs)) : SqT K H a xs := .inl (.inl h)
theorem Inv.list (I : Inv X pins σ H s) (h : SqL X.K H a xs) : ∃ its : List Value, Vals xs its ∧ PlainL s.heap a its.toArray ∧ xs.length ≤ sizeLine := by
  rcases h with h | ⟨o, its, n, hk, hc, hd, hs, hz, r⟩
  · obtain ⟨z, its, n, r, e⟩ := h.ok I.hok
    exact ⟨its, r, ⟨_, n, e, rfl, rfl, rfl⟩, z⟩
  · refine ⟨its.toList, r, ⟨o, n, I.kIn a o hk, hc, hd, by simpa using hs⟩, ?_⟩
    have e := r.length
    simp only [Array.length_toList] at e
    omega
theorem Inv.tuple (I : Inv X pins σ H s) (h : SqT X.K H a xs) : ∃ its : List Value, Vals xs its ∧ IsTup s.heap a its.toArray ∧ xs.length ≤ sizeLine := by
  rcases h with h | ⟨o, its, n, hk, hc, hs, hz, r⟩
  · obtain ⟨z, its, r, p⟩ := h.ok I.hok
    exact ⟨its, r, p, z⟩
  · refine ⟨its.toList, r, ⟨o, I.kIn a o hk, hc, n, by simpa using hs⟩, ?_⟩
    have e := r.length
    simp only [Array.length_toList] at e
    omega
theorem Inv.list_inj (I : Inv X pins σ H s) (h : SqL X.K H a xs) (h' : SqL X.K H a ys) : xs = ys := by
  obtain ⟨its, r, ⟨o, n, e, _, _, d⟩, _⟩ := I.list h
  obtain ⟨its', r', ⟨o', n', e', _, _, d'⟩, _⟩ := I.list h'
  rw [e] at e'; cases e'
  rw [d] at d'
  injection d' with d1 _
  have : its = its' := by simpa using congrArg Array.toList d1
  subst this
  exact r.inj r'
theorem Inv.tuple_inj (I : Inv X pins σ H s) (h : SqT X.K H a xs) (h' : SqT X.K H a ys) : xs = ys := by
  obtain ⟨its, r, ⟨o, e, _, n, d⟩, _⟩ := I.tuple h
  obtain ⟨its', r', ⟨o', e', _, n', d'⟩, _⟩ := I.tuple h'
  rw [e] at e'; cases e'
  rw [d] at d'
  injection d' with d1 _
  have : its = its' := by simpa using congrArg Array.toList d1
  subst this
  exact r.inj r'
end

/-! ### another wish about exceptions -/
abbrev Cx.wish (X : Cx) (E : Value → Shared → Prop) : Cx := { X with xe := E }
/-- no exception leaves -/
abbrev Cx.nox (X : Cx) : Cx := X.wish fun _ _ => False
theorem Cx.Ok.wish {X : Cx} (ok : X.Ok) (E : Value → Shared → Prop) : (X.wish E).Ok :=
  ⟨ok.mod, ok.kind, ok.glob, ok.blt, ok.above, ok.inj, ok.has, ok.cab, ok.hd, ok.frames, ok.stk, ok.exf, ok.bs, ok.bsz, ok.noex, ok.exfs, ok.funs, ok.frf⟩
theorem Cx.Ok.unwish {X : Cx} {E : Value → Shared → Prop} (ok : (X.wish E).Ok) : X.Ok :=
  ⟨ok.mod, ok.kind, ok.glob, ok.blt, ok.above, ok.inj, ok.has, ok.cab, ok.hd, ok.frames, ok.stk, ok.exf, ok.bs, ok.bsz, ok.noex, ok.exfs, ok.funs, ok.frf⟩
section
variable {X : Cx} {pins : List (Addr × Obj)} {σ : St} {H : Hp} {s : Shared} {E : Value → Shared → Prop}
theorem Inv.wish (I : Inv X pins σ H s) (E : Value → Shared → Prop) : Inv (X.wish E) pins σ H s := ⟨I.ok.wish E, I.os, I.bare, I.base, I.loc, I.cell, I.free, I.freeC, I.pin, I.hok, I.len⟩
theorem Inv.unwish (I : Inv (X.wish E) pins σ H s) : Inv X pins σ H s := ⟨I.ok.unwish, I.os, I.bare, I.base, I.loc, I.cell, I.free, I.freeC, I.pin, I.hok, I.len⟩
theorem SP.unwish {D : Ends} {f : Flow} {s' : Shared} (h : SP (X.wish E) pins D f s') : SP X pins D f s' := by
  cases f with
  | next => obtain ⟨σ', H', I, q⟩ := h; exact ⟨σ', H', I.unwish, q⟩
  | brk => obtain ⟨σ', H', I, q⟩ := h; exact ⟨σ', H', I.unwish, q⟩
  | cont => obtain ⟨σ', H', I, q⟩ := h; exact ⟨σ', H', I.unwish, q⟩
  | ret u => obtain ⟨v, σ', H', I, r, q⟩ := h; exact ⟨v, σ', H', I.unwish, r, q⟩
theorem PSs.nox {st : List Stmt} {t : TS} (h : PSs X.nox st t) : PSs X st t := fun pins s σ H D I hw =>
  wpAny_mono (h pins s σ H D (I.wish _) hw) (fun _ _ q => q.unwish) fun _ _ z => False.elim z
end

/-! ### blocks and small statements -/
section
variable {X : Cx} {st : Stmt} {rest : List Stmt} {t u : TS} {e : Expr} {te : TE} {pos : Pos}
def tNext : TS := fun D σ H => D.nx σ H
def tSeq (t u : TS) : TS := fun D σ H => t { D with nx := u D } σ H
theorem pss_nil : PSs X [] tNext := fun _ _ σ H _ I h => wpAny_execs_nil ⟨σ, H, I, h⟩
theorem pss_cons (h1 : PS X st t) (h2 : PSs X rest u) : PSs X (st :: rest) (tSeq t u) := by
  intro pins s σ H D I h
  refine wpAny_execs_cons (thn (h1 pins s σ H { D with nx := u D } I h) fun f s1 q => ?_)
  cases f with
  | next =>
    obtain ⟨σ', H', I', q⟩ := q
    exact h2 pins s1 σ' H' D I' q
  | ret v => exact q
  | brk => exact q
  | cont => exact q
theorem pss_one (h1 : PS X st t) : PSs X [st] t := by
  intro pins s σ H D I h
  refine wpAny_execs_cons (thn (h1 pins s σ H D I h) fun f s1 q => ?_)
  cases f with
  | next => exact wpAny_execs_nil q
  | ret v => exact q
  | brk => exact q
  | cont => exact q
def tBreak : TS := fun D σ H => D.bk σ H
def tCont : TS := fun D σ H => D.ct σ H
/-- in a def's body nothing is shown -/
theorem Inv.quiet {pins : List (Addr × Obj)} {σ : St} {H : Hp} {s : Shared} (I : Inv X pins σ H s) : interactive X.env = false := by simp [interactive, I.ok.kind]
/-- an expression whose value is dropped -/
def tDrop (te : TE) : TS := fun D σ H => te σ H fun _ H1 => D.nx σ H1
theorem ps_expr (he : PE X e te) (hs : swapsWith e none pos.line X.env = pure false := by rfl) : PS X (.Expr e pos) (tDrop te) := by
  intro pins s σ H D I h
  exact wpAny_Expr_any (thn (he pins s σ H _ I h) fun v s1 ⟨x, H1, I1, r1, q1⟩ => ⟨σ, H1, I1, q1⟩) I.quiet hs
def tRet (te : TE) : TS := fun D σ H => te σ H D.rt
theorem ps_ret (he : PE X e te) : PS X (.Return (some e) pos) (tRet te) := by
  intro pins s σ H D I h
  exact wpAny_Return_some (thn (he pins s σ H _ I h) fun v s1 ⟨x, H1, I1, r1, q1⟩ => ⟨x, σ, H1, I1, r1, q1⟩)
def tRetN : TS := fun D _ H => D.rt .non H
def tIfS (c : TT) (t u : TS) : TS := fun D σ H => c σ H fun b H1 => if b = true then t D σ H1 else u D σ H1
theorem ps_if {c : Expr} {a b : List Stmt} {tc : TT} (hc : PT X c tc) (ha : PSs X a t) (hb : PSs X b u) : PS X (.If c a b pos) (tIfS tc t u) := by
  intro pins s σ H D I h
  refine wpAny_If (thn (hc pins s σ H _ I h) fun d s1 ⟨H1, I1, q1⟩ => ?_)
  cases d with
  | true => exact ha pins s1 σ H1 D I1 q1
  | false => exact hb pins s1 σ H1 D I1 q1
/-- code that the proof never comes to -/
def tNever : TS := fun _ _ _ => False
theorem ps_never : PS X st tNever := fun _ _ _ _ _ _ h => h.elim
end

/-! ### targets -/
abbrev TG := V → St → Hp → (St → Hp → Prop) → Prop
abbrev TGs := List V → St → Hp → (St → Hp → Prop) → Prop
def PG (X : Cx) (target : Expr) (t : TG) : Prop :=
  ∀ (pins : List (Addr × Obj)) (s : Shared) (σ : St) (H : Hp) (v : V) (u : Value) (Q : St → Hp → Prop), Inv X pins σ H s → RelV v u → t v σ H Q →
    wpAny (model X.prog X.w) X.A (assign target X.env u) (fun _ s' => ∃ σ' H', Inv X pins σ' H' s' ∧ Q σ' H') X.xe s
/-- several targets, one after another -/
def PGs (X : Cx) (ts : List Expr) (t : TGs) : Prop :=
  ∀ (pins : List (Addr × Obj)) (s : Shared) (σ : St) (H : Hp) (vs : List V) (us : List Value) (Q : St → Hp → Prop), Inv X pins σ H s → Vals vs us → t vs σ H Q →
    wpAny (model X.prog X.w) X.A (assignInOrder ((assignEach ts X.env).map (·.2)) us) (fun _ s' => ∃ σ' H', Inv X pins σ' H' s' ∧ Q σ' H') X.xe s
/-- o[i] = v, by values -/
abbrev TSet := V → V → V → Hp → (Hp → Prop) → Prop
def PSet (X : Cx) (t : TSet) : Prop :=
  ∀ (pins : List (Addr × Obj)) (s : Shared) (σ : St) (H : Hp) (o i v : V) (ov iv u : Value) (Q : Hp → Prop), Inv X pins σ H s → RelV o ov → RelV i iv → RelV v u → t o i v H Q →
    wpAny (model X.prog X.w) X.A (setItem ov iv u) (fun _ s' => ∃ H', Inv X pins σ H' s' ∧ Q H') X.xe s
/-- a op= b, by values -/
abbrev TIp := V → V → Hp → VK → Prop
def PIp (X : Cx) (op : Operator) (t : TIp) : Prop :=
  ∀ (pins : List (Addr × Obj)) (s : Shared) (σ : St) (H : Hp) (x y : V) (v u : Value) (Q : VK), Inv X pins σ H s → RelV x v → RelV y u → t x y H Q →
    wpAny (model X.prog X.w) X.A (inplaceOp op v u) (EP X pins σ Q) X.xe s
section
variable {X : Cx} {pos : Pos}
def gName (i : Nat) : TG := fun v σ H Q => Q (σ.set i (some v)) H
theorem pg_name {i : Nat} {x : Str} (hN : X.N.Nodup) (hi : X.N[i]? = some x) (hx : Loc X.env.scope x) (hf : X.fn x = true ∨ X.env.scope.names.lookup x = some .local := by first | exact .inl rfl | exact .inr rfl | assumption) : PG X (.Name x pos) (gName i) := by
  intro pins s σ H v u Q I r h
  exact wpAny_assign_Name (store_ok I hN hi hx r (fun s' I' => ⟨_, H, I', h⟩) hf)
def gNil : TGs := fun vs σ H Q => vs = [] ∧ Q σ H
def gCons (t : TG) (u : TGs) : TGs := fun vs σ H Q => ∃ v r, vs = v :: r ∧ t v σ H fun σ' H' => u r σ' H' Q
theorem pgs_nil : PGs X [] gNil := by
  intro pins s σ H vs us Q I r h
  obtain ⟨e, h⟩ := h
  subst e
  cases r
  exact assignInOrder_nil ⟨σ, H, I, h⟩
theorem pgs_cons {e : Expr} {es : List Expr} {t : TG} {u : TGs} (h1 : PG X e t) (h2 : PGs X es u)
    (hs : (assignEach (e :: es) X.env).map (·.2) = assign e X.env :: (assignEach es X.env).map (·.2) := by rfl) : PGs X (e :: es) (gCons t u) := by
  intro pins s σ H vs us Q I r h
  obtain ⟨v, vr, e1, h⟩ := h
  subst e1
  cases r with
  | cons r rr =>
    rw [hs]
    refine assignInOrder_cons (thn (h1 pins s σ H _ _ _ I r h) fun _ s1 ⟨σ1, H1, I1, q1⟩ => ?_)
    exact h2 pins s1 σ1 H1 _ _ Q I1 rr q1
/-- (a, b, ..) = a tuple of that length -/
def gTup (K : PySem.W.Frag) (n : Nat) (t : TGs) : TG := fun v σ H Q => ∃ a xs, v = .ref a ∧ SqT K H a xs ∧ xs.length = n ∧ t xs σ H Q
theorem pg_tup {es : List Expr} {k : Nat} {t : TGs} {n : Nat} (hc : X.calm = true) (h : PGs X es t)
    (hn : (assignEach es X.env).length = n := by rfl) (hst : (assignEach es X.env).findIdx? (·.1) = none := by rfl) : PG X (.Tuple es k pos) (gTup X.K n t) := by
  intro pins s σ H v u Q I r hw
  obtain ⟨a, xs, e1, hq, hl, hw⟩ := hw
  subst e1
  cases r
  obtain ⟨its, rv, ht, hz⟩ := I.tuple hq
  refine assign_Tuple_tuple (I.ok.hd hc) ht (by simp [hn, ← hl, rv.length]) hst fun h' hx => ?_
  have I1 : Inv X pins σ H { s with heap := h' } := I.kept (t' := s.toks) fun b o e => hx b o (Nat.ne_of_lt (Heap.lt_size e)) e
  exact h pins _ σ H xs _ Q I1 (by simpa using rv) hw
/-- o[i] = .. -/
def gSub (to ti : TE) (t : TSet) : TG := fun v σ H Q => to σ H fun o H1 => ti σ H1 fun i H2 => t o i v H2 fun H3 => Q σ H3
/-- target = value -/
def tAsg (te : TE) (g : TG) : TS := fun D σ H => te σ H fun x H1 => g x σ H1 D.nx
/-- name = value -/
theorem ps_set {i : Nat} {x : Str} {e : Expr} {te : TE} {pos' : Pos} (hN : X.N.Nodup) (hi : X.N[i]? = some x) (hx : Loc X.env.scope x) (he : PE X e te) (hs : swapsWith e (some (.Name x pos')) pos.line X.env = pure false := by rfl) (hf : X.fn x = true ∨ X.env.scope.names.lookup x = some .local := by first | exact .inl rfl | exact .inr rfl | assumption) :
    PS X (.Assign [.Name x pos'] e pos) (tAsg te (gName i)) := by
  intro pins s σ H D I h
  refine wpAny_Assign_Name (thn (he pins s σ H _ I h) fun v s1 ⟨y, H1, I1, r1, q1⟩ => ?_) hs
  exact store_ok I1 hN hi hx r1 (fun s2 I2 => ⟨_, H1, I2, q1⟩) hf
/-- a, b = x, y with plain local names: stored from the right; the pair itself is not tracked (the opening rows as in PyProof/Rows/TupAssign.lean:23) -/
def tPar (i j : Nat) (ta : TA) : TS := fun D σ H => ta σ H fun vs H1 => ∃ v w, vs = [v, w] ∧ D.nx ((σ.set i (some v)).set j (some w)) H1
/-- name op= e -/
def tAug (i : Nat) (te : TE) (ti : TIp) : TS := fun D σ H => ∃ x, σ[i]? = some (some x) ∧ te σ H fun y H1 => ti x y H1 fun z H2 => D.nx (σ.set i (some z)) H2
/-- o[i] op= e -/
def tAugS (to ti te : TE) (tget : V → V → Hp → VK → Prop) (tip : TIp) (tset : TSet) : TS := fun D σ H => to σ H fun o H1 => ti σ H1 fun i H2 => tget o i H2 fun x H3 => te σ H3 fun y H4 => tip x y H4 fun z H5 => tset o i z H5 fun H6 => D.nx σ H6
/-- o[i], by values -/
def PGet (X : Cx) (t : V → V → Hp → VK → Prop) : Prop :=
  ∀ (pins : List (Addr × Obj)) (s : Shared) (σ : St) (H : Hp) (o i : V) (ov iv : Value) (Q : VK), Inv X pins σ H s → RelV o ov → RelV i iv → t o i H Q →
    wpAny (model X.prog X.w) X.A (getItem ov iv) (EP X pins σ Q) X.xe s
/-- ints -/
def ipI (f : Int → Int → Int) : TIp := fun x y H Q => ∃ i j, x = .int i ∧ y = .int j ∧ Q (.int (f i j)) H
end

/-! ### while -/
section
variable {X : Cx} {pos : Pos}
/-- the invariant W with its measure -/
def tWhile (c : TT) (tb : TS) : TS := fun D σ H => ∃ W : Nat → St → Hp → Prop, (∃ m, W m σ H) ∧ ∀ m σ H, W m σ H →
  c σ H fun b H1 => if b = true then ∃ N : St → Hp → Prop, (∀ σ' H', N σ' H' → ∃ m', m' < m ∧ W m' σ' H') ∧ tb { D with nx := N, ct := N, bk := D.nx } σ H1 else D.nx σ H1
theorem ps_while {c : Expr} {body : List Stmt} {tc : TT} {tb : TS} (hp : PassesOwn (model X.prog X.w) X.A X.env X.xe) (hc : PT X c tc) (hb : PSs X body tb) : PS X (.While c body [] pos) (tWhile tc tb) := by
  intro pins s σ H D I h
  obtain ⟨W, ⟨m0, w0⟩, turn⟩ := h
  refine wpAny_While (codeAny_whileLoop (fun n s' => ∃ σ' H', Inv X pins σ' H' s' ∧ W n σ' H') ?_ m0 ⟨σ, H, I, w0⟩)
  rintro n s1 ⟨σ1, H1, I1, w1⟩
  refine wpAny_passesOwn hp (thn (hc pins s1 σ1 H1 _ I1 (turn n σ1 H1 w1)) fun b s2 ⟨H2, I2, q2⟩ => ?_)
  cases b with
  | true =>
    obtain ⟨N, hN, q2⟩ := q2
    rw [if_pos rfl]
    refine wpAny_passesOwn hp (thn (hb pins s2 σ1 H2 _ I2 q2) fun f s3 q3 => ?_)
    cases f with
    | next =>
      obtain ⟨σ3, H3, I3, n3⟩ := q3
      obtain ⟨m', hm, w3⟩ := hN σ3 H3 n3
      exact ⟨m', hm, σ3, H3, I3, w3⟩
    | cont =>
      obtain ⟨σ3, H3, I3, n3⟩ := q3
      obtain ⟨m', hm, w3⟩ := hN σ3 H3 n3
      exact ⟨m', hm, σ3, H3, I3, w3⟩
    | brk => exact q3
    | ret v => exact q3
  | false =>
    rw [if_neg Bool.false_ne_true]
    exact wpAny_execs_nil ⟨σ1, H2, I2, q2⟩
end

/-! ### what a loop or a comprehension walks -/
/-- at turn i: it yields x (the heap may grow), or it stops -/
structure It where
  go : Nat → Hp → Prop
  yld : Nat → Hp → V → Hp → Prop
  stop : Nat → Hp → Prop
/-- the iterator's own objects may turn: they are not the frame's, not pinned, younger than the entry (or a comprehension's own) -/
def FpOk (X : Cx) (pins : List (Addr × Obj)) (H : Hp) (b : Addr) : Prop :=
  H b = none ∧ b ≠ X.env.locals ∧ b ∉ X.fs ∧ (b ∈ X.ex ∨ X.s₀.heap.objs.size ≤ b) ∧ (∀ x c, X.env.cells.lookup x = some c → c ≠ b) ∧ ∀ p ∈ X.pn ++ pins, p.1 ≠ b
theorem Inv.fpOk {X : Cx} {pins : List (Addr × Obj)} {σ : St} {H H' : Hp} {s : Shared} {b : Addr} (I : Inv X pins σ H s) (hb : s.heap.objs.size ≤ b) (hn : H' b = none) : FpOk X pins H' b := by
  refine ⟨hn, Nat.ne_of_gt (Nat.lt_of_lt_of_le I.lt hb), I.nofs hb, .inr (Nat.le_trans I.sz hb), fun x c e z => ?_, fun p hp z => ?_⟩
  · obtain ⟨v, q⟩ := I.cell x c e
    exact absurd (Nat.lt_of_lt_of_le q.lt (by rw [z]; exact hb)) (Nat.lt_irrefl _)
  · exact absurd (Nat.lt_of_lt_of_le (Heap.lt_size (I.pin p hp).1) (by rw [z]; exact hb)) (Nat.lt_irrefl _)
structure Turn (P : Program) (w : World) (K : PySem.W.Frag) (tg : Expr) (J : It) (fp : List Addr) (it : Addr) (tn : Nat → Heap → Prop) : Prop where
  mem : it ∈ fp
  obj : ∀ i h, tn i h → ∀ b ∈ fp, ∃ o, h.get? b = some o ∧ ∀ v, o.data ≠ .cell v
  keep : ∀ i h h', tn i h → (∀ b ∈ fp, ∀ o, h.get? b = some o → h'.get? b = some o) → tn i h'
  item : ∀ (X : Cx), X.prog = P → X.w = w → X.K = K → X.calm = true → ∀ (i : Nat) (pins : List (Addr × Obj)) (s : Shared) (σ : St) (H : Hp) (E : Value → Shared → Prop), Inv X pins σ H s → (∀ b ∈ fp, FpOk X pins H b) → tn i s.heap → J.go i H →
    wpAny (model P w) X.A (pyNext (.ref it)) (fun r s1 => ∃ u, r = some u ∧
      wpAny (model P w) X.A (letOwnedTupleGo tg (.ref it) u) (fun _ s2 => ∃ x H', Inv X pins σ H' s2 ∧ RelV x u ∧ J.yld i H x H' ∧ tn (i + 1) s2.heap ∧ ∀ b ∈ fp, H' b = none) E s1) E s
  done : ∀ (X : Cx), X.prog = P → X.w = w → X.K = K → X.calm = true → ∀ (i : Nat) (pins : List (Addr × Obj)) (s : Shared) (σ : St) (H : Hp) (E : Value → Shared → Prop), Inv X pins σ H s → (∀ b ∈ fp, FpOk X pins H b) → tn i s.heap → J.stop i H →
    wpAny (model P w) X.A (pyNext (.ref it)) (fun r s1 => r = none ∧ Inv X pins σ H s1) E s
  self : ∀ (A : Around) (i : Nat) (s : Shared) (Q : Value → Shared → Prop) (E : Value → Shared → Prop), tn i s.heap → Q (.ref it) s → wpAny (model P w) A (pyIter (.ref it)) Q E s
abbrev TI := St → Hp → (It → Hp → Prop) → Prop
/-- an iterator has come -/
def PIE (X : Cx) (pins : List (Addr × Obj)) (σ : St) (tg : Expr) (R : It → Hp → Prop) (itv : Value) (s2 : Shared) : Prop :=
  ∃ (it : Addr) (fp : List Addr) (tn : Nat → Heap → Prop) (J : It) (H' : Hp), itv = .ref it ∧ Inv X pins σ H' s2 ∧ Turn X.prog X.w X.K tg J fp it tn ∧ tn 0 s2.heap ∧ (∀ b ∈ fp, FpOk X pins H' b) ∧ R J H'
def PI (X : Cx) (tg iter : Expr) (wi : TI) : Prop :=
  ∀ (pins : List (Addr × Obj)) (s : Shared) (σ : St) (H : Hp) (R : It → Hp → Prop), Inv X pins σ H s → wi σ H R →
    wpAny (model X.prog X.w) X.A (eval iter X.env) (fun v s1 => wpAny (model X.prog X.w) X.A (pyIter v) (PIE X pins σ tg R) X.xe s1) X.xe s

/-- the step ahead of the store is nothing for an iterator that keeps no tuple -/
theorem go_of {M : Model} {A : Around} {E : Value → Shared → Prop} {s : Shared} {tg : Expr} {it : Addr} {u : Value} {o : Obj} {n : String} {vs : Array Value} {Q : Unit → Shared → Prop} (ho : s.heap.get? it = some o) (hc : o.cls = .type n) (hd : o.data = .fields vs)
    (hn : ["enumerate", "zip", "dict_itemiterator", "dict_reverseitemiterator", "odict_iterator", "itertools.zip_longest", "itertools.pairwise"].contains n = false) (hQ : Q () s) : wpAny M A (letOwnedTupleGo tg (.ref it) u) Q E s := by
  unfold letOwnedTupleGo
  cases tg <;> first
    | exact wpAny_pure hQ
    | (cases u <;> first
        | exact wpAny_pure hQ
        | (refine wpAny_bind (wpAny_load ho ?_)
           rw [hc, hd]
           show wpAny M A (if (["enumerate", "zip", "dict_itemiterator", "dict_reverseitemiterator", "odict_iterator", "itertools.zip_longest", "itertools.pairwise"].contains n && vs[0]? == some (rawInt _)) = true then _ else _) Q E s
           rw [if_neg (by intro h; rw [hn, Bool.false_and] at h; cases h)]
           exact wpAny_pure hQ))

/-- the list at a, as it stands at each turn (a loop may append to it) -/
def Itl (K : PySem.W.Frag) (a : Addr) : It :=
  ⟨fun i H => ∃ xs x, SqL K H a xs ∧ xs[i]? = some x, fun i H x H' => H' = H ∧ ∀ xs, SqL K H a xs → xs[i]? = some x, fun i H => ∃ xs, SqL K H a xs ∧ xs.length ≤ i⟩
def Itt (K : PySem.W.Frag) (a : Addr) : It :=
  ⟨fun i H => ∃ xs x, SqT K H a xs ∧ xs[i]? = some x, fun i H x H' => H' = H ∧ ∀ xs, SqT K H a xs → xs[i]? = some x, fun i H => ∃ xs, SqT K H a xs ∧ xs.length ≤ i⟩
/-- lo, lo + 1, .. (n of them) -/
def Itr (lo : Int) (n : Nat) : It := ⟨fun i _ => i < n, fun i H x H' => H' = H ∧ x = .int (lo + i), fun i _ => n ≤ i⟩
theorem turn_list {P : Program} {w : World} {K : PySem.W.Frag} {tg : Expr} (a it : Addr) : Turn P w K tg (Itl K a) [it] it (fun i h => h.IsListIter it a i) where
  mem := by simp
  obj := fun i h st b hb => by
    have e : b = it := by simpa using hb
    subst e
    obtain ⟨o, e, c, d⟩ := st
    exact ⟨o, e, fun v z => by rw [d] at z; cases z⟩
  keep := fun i h h' st k => st.at fun o e => k it (by simp) o e
  item := by
    intro X hP hw hK hc i pins s σ H E I hf st hg
    subst hP hw hK
    obtain ⟨xs, x, hq, hx⟩ := hg
    obtain ⟨its, rv, p, hz⟩ := I.list hq
    obtain ⟨u, hu, ru⟩ := rv.get hx
    obtain ⟨f0, f1, f2, f3, f4, f5⟩ := hf it (by simp)
    refine wpAny_pyNext_list_item st p.isList (x := u) (by simpa using hu) fun h' st' sb => ?_
    have I1 : Inv X pins σ H { s with heap := h' } := I.turned (t' := s.toks) (fun b o hb e => (sb.2 b hb).trans e) f0 f1 f3 f4 f5
    obtain ⟨o, e, c, d⟩ := id st'
    exact ⟨u, rfl, go_of (s := { s with heap := h' }) e c d (by decide) ⟨x, H, I1, ru, ⟨rfl, fun ys hy => by rw [I.list_inj hy hq]; exact hx⟩, st', fun b hb => (hf b hb).1⟩⟩
  done := by
    intro X hP hw hK hc i pins s σ H E I hf st hg
    subst hP hw hK
    obtain ⟨xs, hq, hx⟩ := hg
    obtain ⟨its, rv, p, hz⟩ := I.list hq
    obtain ⟨f0, f1, f2, f3, f4, f5⟩ := hf it (by simp)
    have hl := rv.length
    exact wpAny_pyNext_list_end (I.ok.hd hc) st p.isList (by simp; omega) fun h' eb => ⟨rfl, I.turned (t' := s.toks) (fun b o hb e => eb b o hb e) f0 f1 f3 f4 f5⟩
  self := fun _ _ _ _ _ st h => wpAny_pyIter_listiter st h
theorem turn_tuple {P : Program} {w : World} {K : PySem.W.Frag} {tg : Expr} (a it : Addr) : Turn P w K tg (Itt K a) [it] it (fun i h => h.IsTupleIter it a i) where
  mem := by simp
  obj := fun i h st b hb => by
    have e : b = it := by simpa using hb
    subst e
    obtain ⟨o, e, c, d⟩ := st
    exact ⟨o, e, fun v z => by rw [d] at z; cases z⟩
  keep := fun i h h' st k => st.at fun o e => k it (by simp) o e
  item := by
    intro X hP hw hK hc i pins s σ H E I hf st hg
    subst hP hw hK
    obtain ⟨xs, x, hq, hx⟩ := hg
    obtain ⟨its, rv, p, hz⟩ := I.tuple hq
    obtain ⟨u, hu, ru⟩ := rv.get hx
    obtain ⟨f0, f1, f2, f3, f4, f5⟩ := hf it (by simp)
    refine wpAny_pyNext_tuple_item st (show s.heap.IsTuple a its.toArray from p) (x := u) (by simpa using hu) fun h' st' sb => ?_
    have I1 : Inv X pins σ H { s with heap := h' } := I.turned (t' := s.toks) (fun b o hb e => (sb.2 b hb).trans e) f0 f1 f3 f4 f5
    obtain ⟨o, e, c, d⟩ := id st'
    exact ⟨u, rfl, go_of (s := { s with heap := h' }) e c d (by decide) ⟨x, H, I1, ru, ⟨rfl, fun ys hy => by rw [I.tuple_inj hy hq]; exact hx⟩, st', fun b hb => (hf b hb).1⟩⟩
  done := by
    intro X hP hw hK hc i pins s σ H E I hf st hg
    subst hP hw hK
    obtain ⟨xs, hq, hx⟩ := hg
    obtain ⟨its, rv, p, hz⟩ := I.tuple hq
    obtain ⟨f0, f1, f2, f3, f4, f5⟩ := hf it (by simp)
    have hl := rv.length
    exact wpAny_pyNext_tuple_end (I.ok.hd hc) st (show s.heap.IsTuple a its.toArray from p) (by simp; omega) fun h' eb => ⟨rfl, I.turned (t' := s.toks) (fun b o hb e => eb b o hb e) f0 f1 f3 f4 f5⟩
  self := fun _ _ _ _ _ st h => wpAny_pyIter_tupleiter st h
theorem turn_range {P : Program} {w : World} {K : PySem.W.Frag} {tg : Expr} (it : Addr) (lo : Int) (n : Nat) : Turn P w K tg (Itr lo n) [it] it (fun i h => IsRangeIter h it (lo + (i : Nat) * 1) ((n : Int) - (i : Nat)) 1) where
  mem := by simp
  obj := fun i h st b hb => by
    have e : b = it := by simpa using hb
    subst e
    exact ⟨_, st, fun v z => by
      have z' : Data.fields _ = Data.cell v := z
      cases z'⟩
  keep := fun i h h' st k => k it (by simp) _ st
  item := by
    intro X hP hw hK hc i pins s σ H E I hf st hg
    subst hP hw hK
    obtain ⟨f0, f1, f2, f3, f4, f5⟩ := hf it (by simp)
    have W := Walks.range (prog := X.prog) (w := X.w) (I.ok.hd hc) it lo 1 n
    refine W.item i s _ _ hg st fun v h' tk hv st' kk => ?_
    obtain ⟨t, rfl⟩ := hv
    have I1 : Inv X pins σ H { s with heap := h', toks := tk } := I.turned (fun b o hb e => kk b o (by simpa using hb) e) f0 f1 f3 f4 f5
    refine ⟨_, rfl, go_of (s := { s with heap := h', toks := tk }) (n := "range_iterator") st' rfl rfl (by decide) ⟨.int (lo + i), H, I1, ⟨t, ?_⟩, ⟨rfl, rfl⟩, st', fun b hb => (hf b hb).1⟩⟩
    rw [Int.mul_one]
  done := by
    intro X hP hw hK hc i pins s σ H E I hf st hg
    subst hP hw hK
    obtain ⟨f0, f1, f2, f3, f4, f5⟩ := hf it (by simp)
    exact wpAny_pyNext_range_end (I.ok.hd hc) st (by have : n ≤ i := hg; omega) fun h' eb => ⟨rfl, I.turned (t' := s.toks) (fun b o hb e => eb b o hb e) f0 f1 f3 f4 f5⟩
  self := fun _ _ _ _ _ st h => wpAny_pyIter_rangeiter st h
end L2

namespace L2
open PySem PySem.Spec PyProof.Rows
section
variable {X : Cx} {tg : Expr}
def iList (K : PySem.W.Frag) (tl : TE) : TI := fun σ H R => tl σ H fun x H1 => ∃ a, x = .ref a ∧ (∃ xs, SqL K H1 a xs) ∧ R (Itl K a) H1
def iTup (K : PySem.W.Frag) (tl : TE) : TI := fun σ H R => tl σ H fun x H1 => ∃ a, x = .ref a ∧ (∃ xs, SqT K H1 a xs) ∧ R (Itt K a) H1
theorem pi_list {l : Expr} {tl : TE} (hl : PE X l tl) : PI X tg l (iList X.K tl) := by
  intro pins s σ H R I h
  refine thn (hl pins s σ H _ I h) fun v s1 ⟨x, H1, I1, r1, q1⟩ => ?_
  obtain ⟨a, e, ⟨xs, hq⟩, q⟩ := q1
  subst e
  cases r1
  obtain ⟨its, rv, p, hz⟩ := I1.list hq
  refine wpAny_pyIter_list p.isList ?_
  refine ⟨s1.heap.objs.size, [s1.heap.objs.size], _, _, H1, rfl, I1.kept (t' := s1.toks) fun b o e => Heap.get?_push_of_some _ e, turn_list a _, ⟨_, Heap.get?_push_size _ rfl, rfl, rfl⟩, fun b hb => ?_, q⟩
  have e : b = s1.heap.objs.size := by simpa using hb
  subst e
  exact I1.fpOk (Nat.le_refl _) (I1.hok.fresh (Nat.le_refl _))
theorem pi_tup {l : Expr} {tl : TE} (hl : PE X l tl) : PI X tg l (iTup X.K tl) := by
  intro pins s σ H R I h
  refine thn (hl pins s σ H _ I h) fun v s1 ⟨x, H1, I1, r1, q1⟩ => ?_
  obtain ⟨a, e, ⟨xs, hq⟩, q⟩ := q1
  subst e
  cases r1
  obtain ⟨its, rv, p, hz⟩ := I1.tuple hq
  refine wpAny_pyIter_tuple (show s1.heap.IsTuple a its.toArray from p) ?_
  refine ⟨s1.heap.objs.size, [s1.heap.objs.size], _, _, H1, rfl, I1.kept (t' := s1.toks) fun b o e => Heap.get?_push_of_some _ e, turn_tuple a _, ⟨_, Heap.get?_push_size _ rfl, rfl, rfl⟩, fun b hb => ?_, q⟩
  have e : b = s1.heap.objs.size := by simpa using hb
  subst e
  exact I1.fpOk (Nat.le_refl _) (I1.hok.fresh (Nat.le_refl _))
/-- a range object just made, walked -/
theorem range_it {pins : List (Addr × Obj)} {σ : St} {H : Hp} {s : Shared} {R : It → Hp → Prop} {E : Value → Shared → Prop} {lo hi : Int} {t u v : Tok} {tk : Nat} (I : Inv X pins σ H s) (h1 : -(2 ^ 62) ≤ lo) (h2 : lo < 2 ^ 62) (h3 : -(2 ^ 62) ≤ hi) (h4 : hi < 2 ^ 62)
    (q : R (Itr lo (hi - lo).toNat) H) : wpAny (model X.prog X.w) X.A (pyIter (.ref s.heap.objs.size)) (PIE X pins σ tg R) E { s with heap := s.heap.push { cls := .type "range", data := .fields #[.int lo t, .int hi u, .int 1 v] }, toks := tk } := by
  refine wpAny_pyIter_range (IsRange.new ..) (small_one h1 h2 h3 h4) ?_
  have I1 : Inv X pins σ H { s with heap := s.heap.push { cls := .type "range", data := .fields #[.int lo t, .int hi u, .int 1 v] }, toks := tk } := I.kept fun b o e => Heap.get?_push_of_some _ e
  refine ⟨(s.heap.push { cls := .type "range", data := .fields #[.int lo t, .int hi u, .int 1 v] }).objs.size, [(s.heap.push { cls := .type "range", data := .fields #[.int lo t, .int hi u, .int 1 v] }).objs.size], _, _, H, rfl,
    I1.kept (t' := tk) fun b o e => Heap.get?_push_of_some _ e, turn_range _ lo (hi - lo).toNat, ?_, fun b hb => ?_, q⟩
  · have e1 : lo + ((0 : Nat) : Int) * 1 = lo := by simp
    have e2 : (((hi - lo).toNat : Nat) : Int) - ((0 : Nat) : Int) = Builtin.Range.rangeSize lo hi 1 := by rw [rangeSize_one]; split <;> omega
    show IsRangeIter _ _ (lo + ((0 : Nat) : Int) * 1) ((((hi - lo).toNat : Nat) : Int) - ((0 : Nat) : Int)) 1
    rw [e1, e2]
    exact Heap.get?_push_size _ rfl
  · have e : b = (s.heap.push { cls := .type "range", data := .fields #[.int lo t, .int hi u, .int 1 v] }).objs.size := by simpa using hb
    subst e
    exact I1.fpOk (Nat.le_refl _) (I1.hok.fresh (Nat.le_refl _))
def iRng1 (ta : TA) : TI := fun σ H R => ta σ H fun vs H1 => ∃ j : Int, vs = [.int j] ∧ -(2 ^ 62) ≤ j ∧ j < 2 ^ 62 ∧ R (Itr 0 j.toNat) H1
def iRng2 (ta : TA) : TI := fun σ H R => ta σ H fun vs H1 => ∃ i j : Int, vs = [.int i, .int j] ∧ (-(2 ^ 62) ≤ i ∧ i < 2 ^ 62 ∧ -(2 ^ 62) ≤ j ∧ j < 2 ^ 62) ∧ R (Itr i (j - i).toNat) H1
theorem pi_range1 {a : Expr} {ta : TA} {p pos : Pos} (hg : Gl X "range") (hm : X.mg "range" = none) (ha : PA X [a] ta) (hs : starEach [a] X.env = [(false, eval a X.env)] := by rfl) : PI X tg (.Call (.Name "range" p) [a] [] pos) (iRng1 ta) := by
  intro pins s σ H R I h
  refine Call_ (ld_blt I hg hm boot_range (PyProof.Rows.callWith_type1 (thn (ha pos pins s σ H _ I h) fun us s1 ⟨vs, H1, I1, r1, q1⟩ => ?_) hs rfl))
  obtain ⟨j, e, q1, q2, q⟩ := q1
  subst e
  cases r1 with
  | cons r rr =>
    cases rr
    obtain ⟨t, rfl⟩ := r
    exact call_range_1 (range_it I1 (by omega) (by omega) q1 q2 (by simpa using q))
/-! ### for -/
/-- W: the invariant by the turn and a measure; N: what the body is to reach -/
def tFor (wi : TI) (g : TG) (tb : TS) : TS := fun D σ H => wi σ H fun J H1 => ∃ W : Nat → Nat → St → Hp → Prop, (∃ m, W 0 m σ H1) ∧ ∀ i m σ H, W i m σ H →
  (J.stop i H ∧ D.nx σ H) ∨ (J.go i H ∧ ∃ N : St → Hp → Prop, (∀ σ' H', N σ' H' → ∃ m', m' < m ∧ W (i + 1) m' σ' H') ∧ ∀ x H', J.yld i H x H' → g x σ H' fun σ2 H2 => tb { D with nx := N, ct := N, bk := D.nx } σ2 H2)
/-- the records at fp as they stand -/
def pinsAt (fp : List Addr) (h : Heap) : List (Addr × Obj) := fp.filterMap fun b => (h.get? b).map fun o => (b, o)
theorem mem_pinsAt {fp : List Addr} {h : Heap} {b : Addr} {o : Obj} (hb : b ∈ fp) (e : h.get? b = some o) : (b, o) ∈ pinsAt fp h := List.mem_filterMap.mpr ⟨b, hb, by rw [e]; rfl⟩
theorem of_pinsAt {fp : List Addr} {h : Heap} {p : Addr × Obj} (hp : p ∈ pinsAt fp h) : p.1 ∈ fp ∧ h.get? p.1 = some p.2 := by
  obtain ⟨b, hb, e⟩ := List.mem_filterMap.mp hp
  cases q : h.get? b with
  | none => rw [q] at e; cases e
  | some o =>
    rw [q] at e
    have e' : (b, o) = p := Option.some.inj e
    subst e'
    exact ⟨hb, q⟩
theorem Inv.pinned {pins : List (Addr × Obj)} {σ : St} {H : Hp} {s : Shared} {fp : List Addr} (I : Inv X pins σ H s) (hf : ∀ b ∈ fp, FpOk X pins H b) (ho : ∀ b ∈ fp, ∃ o, s.heap.get? b = some o ∧ ∀ v, o.data ≠ .cell v) : Inv X (pins ++ pinsAt fp s.heap) σ H s :=
  I.pins_of fun p hp => (List.mem_append.mp hp).elim (fun z => I.pin p (List.mem_append_right _ z)) fun z => by
    obtain ⟨hb, e⟩ := of_pinsAt z
    obtain ⟨f0, f1, f2, _⟩ := hf p.1 hb
    obtain ⟨o, e', d⟩ := ho p.1 hb
    rw [e] at e'; cases e'
    exact ⟨e, f0, f1, f2, d⟩
theorem Inv.unpinned {pins pl : List (Addr × Obj)} {σ : St} {H : Hp} {s : Shared} (I : Inv X (pins ++ pl) σ H s) : Inv X pins σ H s := I.pins_of fun p hp => I.pin p (List.mem_append_right _ (List.mem_append_left _ hp))
theorem ps_for {iter : Expr} {body : List Stmt} {wi : TI} {g : TG} {tb : TS} {pos : Pos} (hp : PassesOwn (model X.prog X.w) X.A X.env X.xe) (hc : X.calm = true) (hi : PI X tg iter wi) (hg : PG X tg g) (hb : PSs X body tb)
    (hs : ∀ x, foldedSetIterable iter X.env x = pure x := by intro _; rfl) : PS X (.For tg iter body [] pos) (tFor wi g tb) := by
  intro pins s σ H D I h
  refine wpAny_For (thn (hi pins s σ H _ I h) fun v s1 h1 => thn h1 fun itv s2 h2 => ?_) hs
  obtain ⟨it, fp, tn, J, H2, e, I2, T, st2, f2, W, ⟨m0, w0⟩, turn⟩ := h2
  subst e
  -- what stays true of the iterator's objects through the loop
  have stat : ∀ {H' : Hp}, (∀ b ∈ fp, H' b = none) → ∀ b ∈ fp, FpOk X pins H' b := fun hn b hb => ⟨hn b hb, (f2 b hb).2⟩
  refine codeAny_forLoop_any (fun n s' => ∃ i σ' H', Inv X pins σ' H' s' ∧ tn i s'.heap ∧ (∀ b ∈ fp, H' b = none) ∧ W i n σ' H') ?_ m0 ⟨0, σ, H2, I2, st2, fun b hb => (f2 b hb).1, w0⟩
  rintro n s3 ⟨i, σ3, H3, I3, st3, fr3, w3⟩
  rcases turn i n σ3 H3 w3 with ⟨stop, qn⟩ | ⟨go, N, hN, step⟩
  · refine wpAny_passesOwn hp (thn (T.done X rfl rfl rfl hc i pins s3 σ3 H3 X.xe I3 (stat fr3) st3 stop) fun r s4 ⟨hr, I4⟩ => ?_)
    subst hr
    exact wpAny_execs_nil ⟨σ3, H3, I4, qn⟩
  · refine wpAny_passesOwn hp (thn (T.item X rfl rfl rfl hc i pins s3 σ3 H3 X.xe I3 (stat fr3) st3 go) fun r s4 ⟨u, hr, h4⟩ => ?_)
    subst hr
    refine wpAny_passesOwn hp (thn h4 fun _ s5 ⟨x, H5, I5, r5, y5, st5, fr5⟩ => ?_)
    have I5' := I5.pinned (stat fr5) (T.obj _ _ st5)
    refine wpAny_passesOwn hp (thn (hg _ s5 σ3 H5 x u _ I5' r5 (step x H5 y5)) fun _ s6 ⟨σ6, H6, I6, q6⟩ => ?_)
    refine wpAny_passesOwn hp (thn (hb _ s6 σ6 H6 _ I6 q6) fun f s7 q7 => ?_)
    have again : ∀ {σ7 : St} {H7 : Hp}, Inv X (pins ++ pinsAt fp s5.heap) σ7 H7 s7 → N σ7 H7 → ∃ m, m < n ∧ ∃ i σ' H', Inv X pins σ' H' s7 ∧ tn i s7.heap ∧ (∀ b ∈ fp, H' b = none) ∧ W i m σ' H' := fun {σ7 H7} I7 n7 => by
      obtain ⟨m', hm, w7⟩ := hN σ7 H7 n7
      refine ⟨m', hm, i + 1, σ7, H7, I7.unpinned, T.keep _ _ _ st5 fun b hb o e => (I7.pin (b, o) (List.mem_append_right _ (List.mem_append_right _ (mem_pinsAt hb e)))).1, fun b hb => ?_, w7⟩
      obtain ⟨o, e, d⟩ := T.obj _ _ st5 b hb
      exact (I7.pin (b, o) (List.mem_append_right _ (List.mem_append_right _ (mem_pinsAt hb e)))).2.1
    cases f with
    | next => obtain ⟨σ7, H7, I7, n7⟩ := q7; exact again I7 n7
    | cont => obtain ⟨σ7, H7, I7, n7⟩ := q7; exact again I7 n7
    | brk => obtain ⟨σ7, H7, I7, q7⟩ := q7; exact ⟨σ7, H7, I7.unpinned, q7⟩
    | ret v => obtain ⟨x7, σ7, H7, I7, r7, q7⟩ := q7; exact ⟨x7, σ7, H7, I7.unpinned, r7, q7⟩
end

/-! ### the forms one uses -/
/-- over a list that the body leaves as it is -/
theorem for_list {K : PySem.W.Frag} {a : Addr} {xs : List V} {g : TG} {tb : TS} {D : Ends} {σ : St} {H : Hp} (Pv : Nat → St → Hp → Prop) (h0 : Pv 0 σ H) (hl : ∀ i σ H, i ≤ xs.length → Pv i σ H → SqL K H a xs)
    (hs : ∀ i x σ H, xs[i]? = some x → Pv i σ H → g x σ H fun σ2 H2 => tb { D with nx := Pv (i + 1), ct := Pv (i + 1), bk := D.nx } σ2 H2) (hd : ∀ σ H, Pv xs.length σ H → D.nx σ H) :
    ∃ W : Nat → Nat → St → Hp → Prop, (∃ m, W 0 m σ H) ∧ ∀ i m σ H, W i m σ H →
      ((Itl K a).stop i H ∧ D.nx σ H) ∨ ((Itl K a).go i H ∧ ∃ N : St → Hp → Prop, (∀ σ' H', N σ' H' → ∃ m', m' < m ∧ W (i + 1) m' σ' H') ∧ ∀ x H', (Itl K a).yld i H x H' → g x σ H' fun σ2 H2 => tb { D with nx := N, ct := N, bk := D.nx } σ2 H2) := by
  refine ⟨fun i m σ H => m = xs.length - i ∧ i ≤ xs.length ∧ Pv i σ H, ⟨xs.length, by simp, Nat.zero_le _, h0⟩, ?_⟩
  rintro i m σ H ⟨rfl, hi, p⟩
  have q := hl i σ H hi p
  by_cases hlt : i < xs.length
  · refine .inr ⟨⟨xs, xs[i], q, by simp [hlt]⟩, Pv (i + 1), fun σ' H' p' => ⟨xs.length - (i + 1), by omega, rfl, hlt, p'⟩, fun x H' y => ?_⟩
    obtain ⟨e, y⟩ := y
    subst e
    exact hs i x σ _ (y xs q) p
  · have e : i = xs.length := by omega
    subst e
    exact .inl ⟨⟨xs, q, Nat.le_refl _⟩, hd σ H p⟩
theorem for_tup {K : PySem.W.Frag} {a : Addr} {xs : List V} {g : TG} {tb : TS} {D : Ends} {σ : St} {H : Hp} (Pv : Nat → St → Hp → Prop) (h0 : Pv 0 σ H) (hl : ∀ i σ H, i ≤ xs.length → Pv i σ H → SqT K H a xs)
    (hs : ∀ i x σ H, xs[i]? = some x → Pv i σ H → g x σ H fun σ2 H2 => tb { D with nx := Pv (i + 1), ct := Pv (i + 1), bk := D.nx } σ2 H2) (hd : ∀ σ H, Pv xs.length σ H → D.nx σ H) :
    ∃ W : Nat → Nat → St → Hp → Prop, (∃ m, W 0 m σ H) ∧ ∀ i m σ H, W i m σ H →
      ((Itt K a).stop i H ∧ D.nx σ H) ∨ ((Itt K a).go i H ∧ ∃ N : St → Hp → Prop, (∀ σ' H', N σ' H' → ∃ m', m' < m ∧ W (i + 1) m' σ' H') ∧ ∀ x H', (Itt K a).yld i H x H' → g x σ H' fun σ2 H2 => tb { D with nx := N, ct := N, bk := D.nx } σ2 H2) := by
  refine ⟨fun i m σ H => m = xs.length - i ∧ i ≤ xs.length ∧ Pv i σ H, ⟨xs.length, by simp, Nat.zero_le _, h0⟩, ?_⟩
  rintro i m σ H ⟨rfl, hi, p⟩
  have q := hl i σ H hi p
  by_cases hlt : i < xs.length
  · refine .inr ⟨⟨xs, xs[i], q, by simp [hlt]⟩, Pv (i + 1), fun σ' H' p' => ⟨xs.length - (i + 1), by omega, rfl, hlt, p'⟩, fun x H' y => ?_⟩
    obtain ⟨e, y⟩ := y
    subst e
    exact hs i x σ _ (y xs q) p
  · have e : i = xs.length := by omega
    subst e
    exact .inl ⟨⟨xs, q, Nat.le_refl _⟩, hd σ H p⟩
theorem for_range {lo : Int} {n : Nat} {g : TG} {tb : TS} {D : Ends} {σ : St} {H : Hp} (Pv : Nat → St → Hp → Prop) (h0 : Pv 0 σ H)
    (hs : ∀ i σ H, i < n → Pv i σ H → g (.int (lo + i)) σ H fun σ2 H2 => tb { D with nx := Pv (i + 1), ct := Pv (i + 1), bk := D.nx } σ2 H2) (hd : ∀ σ H, Pv n σ H → D.nx σ H) :
    ∃ W : Nat → Nat → St → Hp → Prop, (∃ m, W 0 m σ H) ∧ ∀ i m σ H, W i m σ H →
      ((Itr lo n).stop i H ∧ D.nx σ H) ∨ ((Itr lo n).go i H ∧ ∃ N : St → Hp → Prop, (∀ σ' H', N σ' H' → ∃ m', m' < m ∧ W (i + 1) m' σ' H') ∧ ∀ x H', (Itr lo n).yld i H x H' → g x σ H' fun σ2 H2 => tb { D with nx := N, ct := N, bk := D.nx } σ2 H2) := by
  refine ⟨fun i m σ H => m = n - i ∧ i ≤ n ∧ Pv i σ H, ⟨n, by simp, Nat.zero_le _, h0⟩, ?_⟩
  rintro i m σ H ⟨rfl, hi, p⟩
  by_cases hlt : i < n
  · refine .inr ⟨hlt, Pv (i + 1), fun σ' H' p' => ⟨n - (i + 1), by omega, rfl, hlt, p'⟩, fun x H' y => ?_⟩
    obtain ⟨e, y⟩ := y
    subst e y
    exact hs i σ _ hlt p
  · have e : i = n := by omega
    subst e
    exact .inl ⟨Nat.le_refl _, hd σ H p⟩
end L2

namespace L2
open PySem PySem.Spec PyProof.Rows

abbrev R2 := V → V → Hp → VK → Prop
/-- a two-place operation on values: f is binaryOp op, inplaceOp op or compareOp op -/
def OpR (X : Cx) (f : Value → Value → Sem Value) (r : R2) : Prop :=
  ∀ (pins : List (Addr × Obj)) (s : Shared) (σ : St) (H : Hp) (x y : V) (v u : Value) (Q : VK), Inv X pins σ H s → RelV x v → RelV y u → r x y H Q →
    wpAny (model X.prog X.w) X.A (f v u) (EP X pins σ Q) X.xe s
/-- a one-place operation -/
def UnR (X : Cx) (f : Value → Sem Value) (r : V → Hp → VK → Prop) : Prop :=
  ∀ (pins : List (Addr × Obj)) (s : Shared) (σ : St) (H : Hp) (x : V) (v : Value) (Q : VK), Inv X pins σ H s → RelV x v → r x H Q →
    wpAny (model X.prog X.w) X.A (f v) (EP X pins σ Q) X.xe s
/-- a call of a value that is known (a builtin, a type) with values -/
def CallR (X : Cx) (f : Value) (r : List V → Hp → VK → Prop) : Prop :=
  ∀ (pins : List (Addr × Obj)) (s : Shared) (σ : St) (H : Hp) (xs : List V) (us : List Value) (Q : VK), Inv X pins σ H s → Vals xs us → r xs H Q →
    wpAny (model X.prog X.w) X.A (call f us) (EP X pins σ Q) X.xe s
/-- a value's truth -/
def TruR (X : Cx) (r : V → Hp → (Bool → Hp → Prop) → Prop) : Prop :=
  ∀ (pins : List (Addr × Obj)) (s : Shared) (σ : St) (H : Hp) (x : V) (v : Value) (Q : Bool → Hp → Prop), Inv X pins σ H s → RelV x v → r x H Q →
    wpAny (model X.prog X.w) X.A (truthy v) (TP X pins σ Q) X.xe s

def tOp (r : R2) (ta tb : TE) : TE := fun σ H Q => ta σ H fun x H1 => tb σ H1 fun y H2 => r x y H2 Q
def tUn (r : V → Hp → VK → Prop) (ta : TE) : TE := fun σ H Q => ta σ H fun x H1 => r x H1 Q
/-- ints in, under C, and a value out -/
def rI (C : Int → Int → Prop) (g : Int → Int → V) : R2 := fun x y H Q => ∃ i j, x = .int i ∧ y = .int j ∧ C i j ∧ Q (g i j) H
def rI0 (g : Int → Int → V) : R2 := fun x y H Q => ∃ i j, x = .int i ∧ y = .int j ∧ Q (g i j) H
def rU (g : Int → V) : V → Hp → VK → Prop := fun x H Q => ∃ i, x = .int i ∧ Q (g i) H

section
variable {X : Cx} {a b c : Expr} {ta tb tc : TE} {pos : Pos}

theorem binT (ha : PE X a ta) (hb : PE X b tb) {pins : List (Addr × Obj)} {s : Shared} {σ : St} {H : Hp} {R : V → V → Hp → Prop} (I : Inv X pins σ H s)
    (h : ta σ H fun x H1 => tb σ H1 fun y H2 => R x y H2) {Q : Value → Shared → Prop} {f : Value → Value → Sem Value}
    (hf : ∀ v u s2 x y H2, Inv X pins σ H2 s2 → RelV x v → RelV y u → R x y H2 → wpAny (model X.prog X.w) X.A (f v u) Q X.xe s2) :
    wpAny (model X.prog X.w) X.A (eval a X.env) (fun v s₁ => wpAny (model X.prog X.w) X.A (eval b X.env) (fun u s₂ => wpAny (model X.prog X.w) X.A (f v u) Q X.xe s₂) X.xe s₁) X.xe s := by
  refine thn (ha pins s σ H _ I h) fun v s1 ⟨x, H1, I1, r1, q1⟩ => ?_
  refine thn (hb pins s1 σ H1 _ I1 q1) fun u s2 ⟨y, H2, I2, r2, q2⟩ => ?_
  exact hf v u s2 x y H2 I2 r1 r2 q2

theorem pe_op {op : Operator} {r : R2} (ho : OpR X (binaryOp op) r) (ha : PE X a ta) (hb : PE X b tb) : PE X (.BinOp a op b pos) (tOp r ta tb) := by
  intro pins s σ H Q I h
  exact wpAny_BinOp (binT ha hb I h fun v u s2 x y H2 I2 rx ry q => ho pins s2 σ H2 x y v u Q I2 rx ry q)
theorem pe_un {op : UnaryOp} {r : V → Hp → VK → Prop} (ho : UnR X (unaryOp op) r) (ha : PE X a ta) : PE X (.UnaryOp op a pos) (tUn r ta) := by
  intro pins s σ H Q I h
  exact UnaryOp_ (thn (ha pins s σ H _ I h) fun v s1 ⟨x, H1, I1, r1, q1⟩ => ho pins s1 σ H1 x v Q I1 r1 q1)
/-! ### ints -/
theorem opI {f : Value → Value → Sem Value} {C : Int → Int → Prop} {g : Int → Int → Int}
    (rule : ∀ (i j : Int) (t u : Tok) (s : Shared) (Q : Value → Shared → Prop) (E : Value → Shared → Prop), C i j → Q (.int (g i j) s.toks) { s with toks := s.toks + 1 } → wpAny (model X.prog X.w) X.A (f (.int i t) (.int j u)) Q E s) :
    OpR X f (rI C fun i j => .int (g i j)) := by
  intro pins s σ H x y v u Q I rx ry h
  obtain ⟨i, j, rfl, rfl, hc, q⟩ := h
  obtain ⟨t, rfl⟩ := rx
  obtain ⟨t', rfl⟩ := ry
  exact rule i j t t' s _ _ hc ⟨.int (g i j), H, I.tok _, ⟨_, rfl⟩, q⟩
theorem opI0 {f : Value → Value → Sem Value} {g : Int → Int → Int}
    (rule : ∀ (i j : Int) (t u : Tok) (s : Shared) (Q : Value → Shared → Prop) (E : Value → Shared → Prop), Q (.int (g i j) s.toks) { s with toks := s.toks + 1 } → wpAny (model X.prog X.w) X.A (f (.int i t) (.int j u)) Q E s) :
    OpR X f (rI0 fun i j => .int (g i j)) := by
  intro pins s σ H x y v u Q I rx ry h
  obtain ⟨i, j, rfl, rfl, q⟩ := h
  obtain ⟨t, rfl⟩ := rx
  obtain ⟨t', rfl⟩ := ry
  exact rule i j t t' s _ _ ⟨.int (g i j), H, I.tok _, ⟨_, rfl⟩, q⟩
theorem opB0 {f : Value → Value → Sem Value} {g : Int → Int → Bool}
    (rule : ∀ (i j : Int) (t u : Tok) (s : Shared) (Q : Value → Shared → Prop) (E : Value → Shared → Prop), Q (.bool (g i j)) s → wpAny (model X.prog X.w) X.A (f (.int i t) (.int j u)) Q E s) :
    OpR X f (rI0 fun i j => .bl (g i j)) := by
  intro pins s σ H x y v u Q I rx ry h
  obtain ⟨i, j, rfl, rfl, q⟩ := h
  obtain ⟨t, rfl⟩ := rx
  obtain ⟨t', rfl⟩ := ry
  exact rule i j t t' s _ _ ⟨.bl (g i j), H, I, rfl, q⟩

def CDiv (i j : Int) : Prop := 0 < j ∧ j < 1073741824
def CDivN (i j : Int) : Prop := j ≠ 0 ∧ j.natAbs < 1073741824
def CPow (i j : Int) : Prop := 0 ≤ j ∧ j ≤ 1000000 ∧ i.natAbs < 2 ^ 64
def CMul (i j : Int) : Prop := (-(2 ^ 64) < i ∧ i < 2 ^ 64) ∨ (-(2 ^ 64) < j ∧ j < 2 ^ 64)
theorem CMul.ok {i j : Int} (h : CMul i j) : IntMulOk i j := by
  rcases h with ⟨h1, h2⟩ | ⟨h1, h2⟩
  · exact .of_left (intBits_le_64 h1 h2)
  · exact .of_right (intBits_le_64 h1 h2)
theorem op_add : OpR X (binaryOp .Add) (rI0 fun i j => .int (i + j)) := opI0 fun _ _ _ _ _ _ _ q => add_int q
theorem op_sub : OpR X (binaryOp .Sub) (rI0 fun i j => .int (i - j)) := opI0 fun _ _ _ _ _ _ _ q => sub_int q
theorem op_mul : OpR X (binaryOp .Mult) (rI CMul fun i j => .int (i * j)) := opI fun _ _ _ _ _ _ _ hc q => mul_int q hc.ok
/-- // by a positive divisor -/
theorem op_fdiv : OpR X (binaryOp .FloorDiv) (rI CDiv fun i j => .int (i / j)) := opI fun i j _ _ _ _ _ hc q => by
  have h1 : (0 : Int) < j := hc.1
  have h2 : j < 1073741824 := hc.2
  exact floordiv_int (by omega) (by rw [Int.fdiv_eq_ediv_of_nonneg i (by omega)]; exact q) (.inl (PyProof.noPylong_small (by omega)))
/-- % by a positive divisor of any size -/
theorem op_mod : OpR X (binaryOp .Mod) (rI (fun _ j => 0 < j) fun i j => .int (i % j)) := opI fun i j _ _ _ _ _ hc q => by
  have h1 : (0 : Int) < j := hc
  exact mod_int' (by omega) (by rw [Int.fmod_eq_emod_of_nonneg i (by omega)]; exact q)
theorem unI {f : Value → Sem Value} {g : Int → Int}
    (rule : ∀ (i : Int) (t : Tok) (s : Shared) (Q : Value → Shared → Prop) (E : Value → Shared → Prop), Q (.int (g i) s.toks) { s with toks := s.toks + 1 } → wpAny (model X.prog X.w) X.A (f (.int i t)) Q E s) :
    UnR X f (rU fun i => .int (g i)) := by
  intro pins s σ H x v Q I rx h
  obtain ⟨i, rfl, q⟩ := h
  obtain ⟨t, rfl⟩ := rx
  exact rule i t s _ _ ⟨.int (g i), H, I.tok _, ⟨_, rfl⟩, q⟩
theorem un_neg : UnR X (unaryOp .USub) (rU fun i => .int (-i)) := unI fun _ _ _ _ _ q => neg_int q
/-! ### bools among ints: n += (a < b) -/
end

/-! ### comparisons -/
/-- the scalars that == tells apart as data does -/
def scal : V → V → Bool
  | .non, .non => true | .non, .int _ => true | .int _, .non => true | .non, .bl _ => true | .bl _, .non => true | .non, .str _ => true | .str _, .non => true
  | .int _, .int _ => true | .bl _, .bl _ => true | .str _, .str _ => true | .byt _, .byt _ => true
  | .int _, .str _ => true | .str _, .int _ => true | .bl _, .str _ => true | .str _, .bl _ => true
  | _, _ => false
def rEq : R2 := fun x y H Q => scal x y = true ∧ Q (.bl (decide (x = y))) H
def rNe : R2 := fun x y H Q => scal x y = true ∧ Q (.bl (!decide (x = y))) H

theorem dec_int {i j : Int} : decide (V.int i = V.int j) = (i == j) := by
  rw [Bool.eq_iff_iff]
  simp
theorem dec_bl {i j : Bool} : decide (V.bl i = V.bl j) = (i == j) := by
  rw [Bool.eq_iff_iff]
  simp
theorem dec_str {i j : Str} : decide (V.str i = V.str j) = (i == j) := by
  rw [Bool.eq_iff_iff]
  simp
theorem dec_byt {i j : Array UInt8} : decide (V.byt i = V.byt j) = (i.toList == j.toList) := by
  rw [Bool.eq_iff_iff]
  cases i
  cases j
  simp

section
variable {X : Cx} {a b c : Expr} {ta tb tc : TE} {pos : Pos}
theorem fin_bl {pins : List (Addr × Obj)} {σ : St} {H : Hp} {s : Shared} {Q : VK} {k k' : Bool} (I : Inv X pins σ H s) (q : Q (.bl k) H) (e : k = k') : EP X pins σ Q (.bool k') s := by
  subst e
  exact ⟨.bl k, H, I, rfl, q⟩
theorem op_eq : OpR X (compareOp .Eq) rEq := by
  intro pins s σ H x y v u Q I rx ry h
  obtain ⟨hs, q⟩ := h
  cases x with
  | non =>
    cases rx
    cases y with
    | non => cases ry; exact PySem.EqNone.eq_none_none (fin_bl I q (by simp))
    | bl j => cases ry; exact PySem.EqNone.eq_none_bool (fin_bl I q (by simp))
    | int j => obtain ⟨t', rfl⟩ := ry; exact PySem.EqNone.eq_none_int (fin_bl I q (by simp))
    | str j => obtain ⟨t', rfl⟩ := ry; exact PySem.EqNone.eq_none_str (fin_bl I q (by simp))
    | _ => exact absurd (show false = true from hs) Bool.false_ne_true
  | bl i =>
    cases rx
    cases y with
    | non => cases ry; exact PySem.EqNone.eq_bool_none (fin_bl I q (by simp))
    | bl j => cases ry; exact eq_bool (fin_bl I q dec_bl)
    | str j => obtain ⟨t', rfl⟩ := ry; exact PySem.EqMixed.eq_bool_str (fin_bl I q (by simp))
    | _ => exact absurd (show false = true from hs) Bool.false_ne_true
  | int i =>
    obtain ⟨t, rfl⟩ := rx
    cases y with
    | non => cases ry; exact PySem.EqNone.eq_int_none (fin_bl I q (by simp))
    | int j => obtain ⟨t', rfl⟩ := ry; exact eq_int (fin_bl I q dec_int)
    | str j => obtain ⟨t', rfl⟩ := ry; exact PySem.EqMixed.eq_int_str (fin_bl I q (by simp))
    | _ => exact absurd (show false = true from hs) Bool.false_ne_true
  | str i =>
    obtain ⟨t, rfl⟩ := rx
    cases y with
    | non => cases ry; exact PySem.EqNone.eq_str_none (fin_bl I q (by simp))
    | bl j => cases ry; exact PySem.EqMixed.eq_str_bool (fin_bl I q (by simp))
    | int j => obtain ⟨t', rfl⟩ := ry; exact PySem.EqMixed.eq_str_int (fin_bl I q (by simp))
    | str j => obtain ⟨t', rfl⟩ := ry; exact eq_str (fin_bl I q dec_str)
    | _ => exact absurd (show false = true from hs) Bool.false_ne_true
  | byt i =>
    obtain ⟨t, rfl⟩ := rx
    cases y with
    | byt j => obtain ⟨t', rfl⟩ := ry; exact PySem.W.eq_bytes (fin_bl I q dec_byt)
    | _ => exact absurd (show false = true from hs) Bool.false_ne_true
  | _ => cases y <;> exact absurd (show false = true from hs) Bool.false_ne_true
theorem op_ne : OpR X (compareOp .NotEq) rNe := by
  intro pins s σ H x y v u Q I rx ry h
  obtain ⟨hs, q⟩ := h
  cases x with
  | non =>
    cases rx
    cases y with
    | non => cases ry; exact PySem.EqNone.ne_none_none (fin_bl I q (by simp))
    | bl j => cases ry; exact PySem.EqNone.ne_none_bool (fin_bl I q (by simp))
    | int j => obtain ⟨t', rfl⟩ := ry; exact PySem.EqNone.ne_none_int (fin_bl I q (by simp))
    | str j => obtain ⟨t', rfl⟩ := ry; exact PySem.EqNone.ne_none_str (fin_bl I q (by simp))
    | _ => exact absurd (show false = true from hs) Bool.false_ne_true
  | bl i =>
    cases rx
    cases y with
    | non => cases ry; exact PySem.EqNone.ne_bool_none (fin_bl I q (by simp))
    | bl j => cases ry; exact ne_bool (fin_bl I q (congrArg not dec_bl))
    | str j => obtain ⟨t', rfl⟩ := ry; exact PySem.EqMixed.ne_bool_str (fin_bl I q (by simp))
    | _ => exact absurd (show false = true from hs) Bool.false_ne_true
  | int i =>
    obtain ⟨t, rfl⟩ := rx
    cases y with
    | non => cases ry; exact PySem.EqNone.ne_int_none (fin_bl I q (by simp))
    | int j => obtain ⟨t', rfl⟩ := ry; exact ne_int (fin_bl I q (congrArg not dec_int))
    | str j => obtain ⟨t', rfl⟩ := ry; exact PySem.EqMixed.ne_int_str (fin_bl I q (by simp))
    | _ => exact absurd (show false = true from hs) Bool.false_ne_true
  | str i =>
    obtain ⟨t, rfl⟩ := rx
    cases y with
    | non => cases ry; exact PySem.EqNone.ne_str_none (fin_bl I q (by simp))
    | bl j => cases ry; exact PySem.EqMixed.ne_str_bool (fin_bl I q (by simp))
    | int j => obtain ⟨t', rfl⟩ := ry; exact PySem.EqMixed.ne_str_int (fin_bl I q (by simp))
    | str j => obtain ⟨t', rfl⟩ := ry; exact ne_str (fin_bl I q (congrArg not dec_str))
    | _ => exact absurd (show false = true from hs) Bool.false_ne_true
  | byt i =>
    obtain ⟨t, rfl⟩ := rx
    cases y with
    | byt j => obtain ⟨t', rfl⟩ := ry; exact PySem.W.ne_bytes (fin_bl I q (congrArg not dec_byt))
    | _ => exact absurd (show false = true from hs) Bool.false_ne_true
  | _ => cases y <;> exact absurd (show false = true from hs) Bool.false_ne_true

theorem op_lt : OpR X (compareOp .Lt) (rI0 fun i j => .bl (decide (i < j))) := opB0 fun _ _ _ _ _ _ _ q => lt_int q
theorem op_le : OpR X (compareOp .LtE) (rI0 fun i j => .bl (decide (i ≤ j))) := opB0 fun _ _ _ _ _ _ _ q => le_int q
/-- the one string within the other -/
theorem op_in_str : OpR X (compareOp .In) (fun x y H Q => ∃ i j, x = .str i ∧ y = .str j ∧ Q (.bl (!(Builtin.Str.occurrences j i 0 j.length 1).isEmpty)) H) := by
  intro pins s σ H x y v u Q I rx ry h
  obtain ⟨i, j, rfl, rfl, q⟩ := h
  obtain ⟨t, rfl⟩ := rx
  obtain ⟨t', rfl⟩ := ry
  exact in_str (fin_bl I q rfl)

/-- is, is not of two objects that are tracked lists or instances -/
def isObj : HO → Bool
  | .lst _ => true
  | .ins _ _ _ => true
  | _ => false
theorem nomark (b : Expr) {op : CmpOp} (h : op ≠ .In := by decide) (h2 : op ≠ .NotIn := by decide) : behindInMarks op b = false := by
  have e1 : (op == CmpOp.In) = false := by cases op <;> first | rfl | exact absurd rfl h
  have e2 : (op == CmpOp.NotIn) = false := by cases op <;> first | rfl | exact absurd rfl h2
  cases b <;> simp [behindInMarks, e1, e2]
/-- a comparison as a value; hm: nomark b, or (for in, not in) by with_unfolding_all rfl -/
theorem pe_cmpR {op : CmpOp} {r : R2} (ho : OpR X (compareOp op) r) (ha : PE X a ta) (hb : PE X b tb) (hm : behindInMarks op b = false) : PE X (.Compare a [op] [b] pos) (tOp r ta tb) := by
  intro pins s σ H Q I h
  exact wpAny_Compare1 (binT ha hb I h fun v u s2 x y H2 I2 rx ry q => ho pins s2 σ H2 x y v u Q I2 rx ry q) hm
/-- a reading of a value as a test -/
def tTest (t : TE) : TT := fun σ H Q => t σ H fun x H' => ∃ k, x = .bl k ∧ Q k H'
theorem pt_cmpR {op : CmpOp} {r : R2} (ho : OpR X (compareOp op) r) (ha : PE X a ta) (hb : PE X b tb) (hm : behindInMarks op b = false) : PT X (.Compare a [op] [b] pos) (tTest (tOp r ta tb)) := by
  intro pins s σ H Q I h
  refine wpAny_isTrue_Compare1 (thn (ha pins s σ H _ I h) fun v s1 ⟨x, H1, I1, r1, q1⟩ => thn (hb pins s1 σ H1 _ I1 q1) fun u s2 ⟨y, H2, I2, r2, q2⟩ =>
    thn (ho pins s2 σ H2 x y v u _ I2 r1 r2 q2) fun c s3 ⟨z, H3, I3, r3, k, e, q3⟩ => ?_) hm
  subst e
  cases r3
  exact wpAny_truthy_bool ⟨H3, I3, q3⟩
/-- a op1 b op2 c -/
def tChain (r r' : R2) (ta tb tc : TE) : TE := fun σ H Q => ta σ H fun x H1 => tb σ H1 fun y H2 => r x y H2 fun z H3 => ∃ k, z = .bl k ∧
  (if k = true then tc σ H3 fun w' H4 => r' y w' H4 Q else Q (.bl false) H3)
theorem pe_chain {op op' : CmpOp} {r r' : R2} (ho : OpR X (compareOp op) r) (ho' : OpR X (compareOp op') r') (ha : PE X a ta) (hb : PE X b tb) (hc : PE X c tc)
    (hm : lastMarks [op, op'] [b, c] = false := by with_unfolding_all rfl) : PE X (.Compare a [op, op'] [b, c] pos) (tChain r r' ta tb tc) := by
  intro pins s σ H Q I h
  refine Compare_chain (thn (ha pins s σ H _ I h) fun v s1 ⟨x, H1, I1, r1, q1⟩ => chain_link (thn (hb pins s1 σ H1 _ I1 q1) fun u s2 ⟨y, H2, I2, r2, q2⟩ =>
    thn (ho pins s2 σ H2 x y v u _ I2 r1 r2 q2) fun d s3 ⟨z, H3, I3, r3, k, e, q3⟩ => ?_)) hm
  subst e
  cases r3
  refine wpAny_truthy_bool ?_
  cases k with
  | false => exact ite_ff ⟨.bl false, H3, I3, rfl, q3⟩
  | true => exact ite_tt (chain_last (thn (hc pins s3 σ H3 _ I3 q3) fun w' s4 ⟨z', H4, I4, r4, q4⟩ => ho' pins s4 σ H4 y z' u w' Q I4 r2 r4 q4))
theorem pt_chain {op op' : CmpOp} {r r' : R2} (ho : OpR X (compareOp op) r) (ho' : OpR X (compareOp op') r') (ha : PE X a ta) (hb : PE X b tb) (hc : PE X c tc)
    (hm : lastMarks [op, op'] [b, c] = false := by with_unfolding_all rfl) : PT X (.Compare a [op, op'] [b, c] pos) (tTest (tChain r r' ta tb tc)) := by
  intro pins s σ H Q I h
  refine isTrue_chain (thn (ha pins s σ H _ I h) fun v s1 ⟨x, H1, I1, r1, q1⟩ => test_link (thn (hb pins s1 σ H1 _ I1 q1) fun u s2 ⟨y, H2, I2, r2, q2⟩ =>
    thn (ho pins s2 σ H2 x y v u _ I2 r1 r2 q2) fun d s3 ⟨z, H3, I3, r3, k, e, q3⟩ => ?_)) hm
  subst e
  cases r3
  refine wpAny_truthy_bool ?_
  cases k with
  | false =>
    obtain ⟨k', e', q'⟩ := q3
    cases e'
    exact ite_ff ⟨H3, I3, q'⟩
  | true =>
    refine ite_tt (test_last (thn (hc pins s3 σ H3 _ I3 q3) fun w' s4 ⟨z', H4, I4, r4, q4⟩ => thn (ho' pins s4 σ H4 y z' u w' _ I4 r2 r4 q4) fun d' s5 ⟨z2, H5, I5, r5, k2, e2, q5⟩ => ?_))
    subst e2
    cases r5
    exact wpAny_truthy_bool ⟨H5, I5, q5⟩

/-! ### truth -/
/-- a value's truth by the abstract heap -/
def TruV (K : PySem.W.Frag) (x : V) (H : Hp) (k : Bool) : Prop :=
  match x with
  | .non => k = false
  | .bl b => k = b
  | .int i => k = (i != 0)
  | .str y => y.length ≤ sizeLine ∧ k = ((y.length : Int) != 0)
  | .byt y => y.size ≤ sizeLine ∧ k = ((y.size : Int) != 0)
  | .ref p => (∃ xs, SqL K H p xs ∧ k = !xs.isEmpty) ∨ (∃ xs, SqT K H p xs ∧ k = !xs.isEmpty) ∨ ∃ kvs, H p = some (.dK kvs) ∧ k = !kvs.isEmpty
  | _ => False
theorem isEmpty_kv {κ : Type} {kvs : List (κ × V)} {vs : List (κ × Value)} (r : KV kvs vs) : (!vs.isEmpty) = !kvs.isEmpty := by
  cases r <;> rfl
theorem isEmpty_of {xs : List V} {its : List Value} (r : Vals xs its) : (!its.toArray.isEmpty) = !xs.isEmpty := by
  cases r <;> simp
theorem line63 : (sizeLine : Nat) < 2 ^ 63 := by rw [sizeLine_eq]; decide
theorem tru_ok : TruR X (fun x H Q => ∃ k, TruV X.K x H k ∧ Q k H) := by
  intro pins s σ H x v Q I rx h
  obtain ⟨k, e, q⟩ := h
  have hl := line63
  have hs : sizeLine = 16777216 := sizeLine_eq
  cases x with
  | non =>
    cases rx
    have e' : k = false := e
    subst e'
    exact truthy_none ⟨H, I, q⟩
  | bl b =>
    cases rx
    have e' : k = b := e
    subst e'
    exact wpAny_truthy_bool ⟨H, I, q⟩
  | int i =>
    obtain ⟨t, rfl⟩ := rx
    have e' : k = (i != 0) := e
    subst e'
    exact PySem.P.truthy_int ⟨H, I, q⟩
  | str y =>
    obtain ⟨t, rfl⟩ := rx
    obtain ⟨hy, e'⟩ : y.length ≤ sizeLine ∧ k = ((y.length : Int) != 0) := e
    subst e'
    exact PySem.P.truthy_str (by omega) ⟨H, I.tok _, q⟩
  | byt y =>
    obtain ⟨t, rfl⟩ := rx
    obtain ⟨hy, e'⟩ : y.size ≤ sizeLine ∧ k = ((y.size : Int) != 0) := e
    subst e'
    exact PySem.W.truthy_bytes (by omega) ⟨H, I.tok _, q⟩
  | ref p =>
    cases rx
    have e' : (∃ xs, SqL X.K H p xs ∧ k = !xs.isEmpty) ∨ (∃ xs, SqT X.K H p xs ∧ k = !xs.isEmpty) ∨ ∃ kvs, H p = some (.dK kvs) ∧ k = !kvs.isEmpty := e
    rcases e' with ⟨xs, hx, e'⟩ | ⟨xs, hx, e'⟩ | ⟨kvs, hx, e'⟩
    · subst e'
      obtain ⟨its, r, pl, hz⟩ := I.list hx
      have hlen := r.length
      exact wpAny_truthy_list pl.isList (by simp only [List.size_toArray]; omega) ⟨H, I.tok _, by rw [isEmpty_of r]; exact q⟩
    · subst e'
      obtain ⟨its, r, pl, hz⟩ := I.tuple hx
      have hlen := r.length
      exact truthy_tuple pl (by simp only [List.size_toArray]; omega) ⟨H, I.tok _, by rw [isEmpty_of r]; exact q⟩
    · subst e'
      obtain ⟨hz, hS, vs, r, m⟩ : kvs.length ≤ sizeLine ∧ (p == sysModules) = false ∧ ∃ vs, KV kvs vs ∧ s.heap.DictOf (mixKind X.prog X.w) p vs := I.hok p _ hx
      have hlen : kvs.length = vs.length := Paired.length r
      exact wpAny_truthy_dict hS m (by omega) ⟨H, I.tok _, by rw [isEmpty_kv r]; exact q⟩
  | _ => exact (show False from e).elim
/-- any expression whose test is its value's truth (a name, a call, a subscript, a field ..: he by fun _ => rfl) -/
theorem pt_truth (ha : PE X a ta) (he : ∀ whole, isTrue a X.env whole = (do let v ← whole; standAt a.pos; holding [v] (truthy v))) :
    PT X a (fun σ H Q => ta σ H fun x H' => ∃ k, TruV X.K x H' k ∧ Q k H') := by
  intro pins s σ H Q I h
  exact isTrue_plain (thn (ha pins s σ H _ I h) fun v s1 ⟨x, H1, I1, r1, q1⟩ => tru_ok pins s1 σ H1 x v Q I1 r1 q1) (he _)

/-! ### strs and bytes -/
theorem op_add_str : OpR X (binaryOp .Add) (fun x y H Q => ∃ i j, x = .str i ∧ y = .str j ∧ i.length + j.length ≤ sizeLine ∧ Q (.str (i ++ j)) H) := by
  intro pins s σ H x y v u Q I rx ry h
  obtain ⟨i, j, rfl, rfl, hz, q⟩ := h
  obtain ⟨t, rfl⟩ := rx
  obtain ⟨t', rfl⟩ := ry
  exact add_str (fun t' tk => ⟨.str (i ++ j), H, I.tok _, ⟨_, rfl⟩, q⟩) hz
def PlainIxT (b : Expr) : Prop := ∀ o i, subscripted b false o i = operate [o, i] (getItem o i)
/-! ### scalar builtins, by CallR -/
theorem vals1 {x : V} {us : List Value} (r : Vals [x] us) : ∃ u, us = [u] ∧ RelV x u := by
  cases r with
  | cons r1 r2 => cases r2; exact ⟨_, rfl, r1⟩
theorem vals2 {x y : V} {us : List Value} (r : Vals [x, y] us) : ∃ u w', us = [u, w'] ∧ RelV x u ∧ RelV y w' := by
  cases r with
  | cons r1 r2 =>
    cases r2 with
    | cons r3 r4 => cases r4; exact ⟨_, _, rfl, r1, r3⟩
theorem call_str_int : CallR X (.type "str") (fun xs H Q => ∃ i, xs = [.int i] ∧ i.natAbs.log2 < 1920 ∧ Q (.str (toString i)) H) := by
  intro pins s σ H xs us Q I r h
  obtain ⟨i, rfl, hz, q⟩ := h
  obtain ⟨u, rfl, t, rfl⟩ := vals1 r
  exact PySem.P.str_of_int hz ⟨.str _, H, I.tok _, ⟨_, rfl⟩, q⟩
/-- len of a str, a bytes, a list, a tuple -/
def LenV (K : PySem.W.Frag) (x : V) (H : Hp) (n : Nat) : Prop :=
  match x with
  | .str y => y.length ≤ sizeLine ∧ n = y.length
  | .byt y => y.size ≤ sizeLine ∧ n = y.size
  | .ref p => (∃ xs, SqL K H p xs ∧ n = xs.length) ∨ ∃ xs, SqT K H p xs ∧ n = xs.length
  | _ => False
end
end L2

namespace L2
open PySem PySem.Spec PyProof.Rows

/-! ### an instance, its attributes a map -/
structure ObjM (h : Heap) (x dx C : Addr) (mA : Str → Option Value) : Prop where
  obj : h.get? x = some (PySem.W.instObj C dx)
  ns : h.Ns1 dx mA
  ne : dx ≠ x

theorem lookIn_ns {h : Heap} {dx : Addr} {mA : Str → Option Value} (n : h.Ns1 dx mA) : ∃ od, h.get? dx = some od ∧ ∀ name, PySem.W.lookIn name od = some (mA name) := by
  obtain ⟨o, es, ep, ho, hd, hk, _, hm⟩ := n
  refine ⟨o, ho, fun name => ?_⟩
  have e := hm name
  unfold nsFind findBy at e
  rw [← Array.find?_toList] at e
  unfold PySem.W.lookIn
  rw [hd]
  dsimp only
  split
  · rename_i y q
    rw [q] at e
    exact congrArg some e
  · rename_i q
    rw [q] at e
    have a : es.toList.any (·.refKey) = false := by
      rw [List.any_eq_false]
      intro y hy
      obtain ⟨z, t, hkey⟩ := hk y (Array.mem_toList_iff.mp hy)
      simp [DictEntry.refKey, hkey]
    have a' : ¬ es.toList.any (·.refKey) = true := by rw [a]; exact Bool.false_ne_true
    rw [if_neg a']
    exact congrArg some e

theorem ObjM.look {h : Heap} {x dx C : Addr} {mA : Str → Option Value} (I : ObjM h x dx C mA) : ∃ od, PySem.W.InstAt h x (PySem.W.instObj C dx) C (some od) ∧ ∀ name, PySem.W.lookIn name od = some (mA name) :=
  let ⟨od, ho, hl⟩ := lookIn_ns I.ns
  ⟨od, ⟨I.obj, rfl, rfl, ho⟩, hl⟩

section
variable {prog : Program} {w : World} {A : Around} {E : Value → Shared → Prop} {s : Shared} {K : PySem.W.Frag} {x dx C f : Addr} {mA : Str → Option Value} {name : Str} {v : Value}

theorem set_map {ns : List Str} {Q : Unit → Shared → Prop} (X : K.In s.heap) (I : ObjM s.heap x dx C mA)
    (hs : PySem.W.findIn K (.ref C) "__setattr__" = some (some (.builtin "object.__setattr__"))) (hp : PySem.W.plainOver K C = true) (ht : PySem.W.takerIn K C name = some none) (hh : PySem.W.hasDictIn K C = true)
    (hw : PySem.Within mA ns) (hsz : ns.length ≤ sizeLine)
    (h : ∀ h', ObjM h' x dx C (fun y => if y = name then some v else mA y) → Heap.SameBut dx s.heap h' → Q () { s with heap := h', toks := s.toks + 2 }) :
    wpAny (model prog w) A (setAttr (.ref x) name v) Q E s := by
  obtain ⟨od, J, hl⟩ := I.look
  refine PySem.W.set_plain X J hs (PySem.W.osa_open (s := { s with toks := s.toks + 1 }) (r := none) X J hp ht fun b => ?_)
  obtain ⟨cd, hc, hd'⟩ := PySem.W.any_some hh
  have hx : s.heap.get? x = some ⟨.ref C, some dx, .plain, #[]⟩ := I.obj
  refine wpAny_bind (wpAny_pure (wpAny_bind (wpAny_bind (wpAny_loadPart hx (wpAny_bind (PySem.W.Looks.here (s := { s with toks := s.toks + 1 }) (PySem.W.looks_clsIn X hc) ?_))))))
  rw [hd']
  refine wpAny_pure (a := some dx) (wpAny_bind (wpAny_pure (wpAny_bind ?_)))
  refine wpAny_nsSet1 (s := { s with toks := s.toks + 1 }) I.ns fun h' hn2 hs2 => ?_
  obtain ⟨oD, esD, epD, hoD, hdD, hcD⟩ := hn2.count (PySem.Within.cons name v hw)
  refine wpAny_bind (wpAny_lookBehind hoD (by rw [hdD]; exact pastItsLine_dict (Nat.le_trans hcD (by rw [List.length_cons]; omega))) ?_)
  exact wpAny_pure (h _ ⟨(hs2.2 _ (Ne.symm I.ne)).trans I.obj, hn2, I.ne⟩ hs2)

/-- C(..): the dict at the heap's end, the instance behind it; then its __init__ -/
theorem make_map {R : Result → Shared → Prop} {vs : List Value} {kw : List (Str × Value)} (X : K.In s.heap) (hm : PySem.W.makesIn K C = true)
    (hi : PySem.W.findIn K (.ref C) "__init__" = some (some (.ref f))) (hf : PySem.W.typeIn K (.ref f) = some (.type "function"))
    (h : codeAny (model prog w) (A.under (.builtin "type.__call__" ⟨.ref C :: vs, kw⟩)) (.call (.ref f) ⟨.ref (s.heap.objs.size + 1) :: vs, kw⟩) (PySem.W.InitBack (s.heap.objs.size + 1) R)
      { s with heap := (s.heap.push PySem.W.emptyDict).push (PySem.W.instObj C s.heap.objs.size) }) :
    codeAny (model prog w) A (.call (.ref C) ⟨vs, kw⟩) R s := by
  obtain ⟨hh, g, d, t, os⟩ := s
  exact PySem.W.make_core (PySem.W.makes_of X hm) (PySem.W.looks_findIn X hi) (fun self => PySem.W.bind_fn X self hf) (.inl rfl) h
end

/-! ### the attributes as a list of pairs -/
def putF (f : Str) (v : V) : List (Str × V) → List (Str × V)
  | [] => [(f, v)]
  | (g, x) :: r => if g = f then (g, v) :: r else (g, x) :: putF f v r
theorem lookup_putF (f g : Str) (v : V) : ∀ fs : List (Str × V), (putF f v fs).lookup g = if g = f then some v else fs.lookup g
  | [] => by
    show List.lookup g [(f, v)] = _
    by_cases h : g = f
    · have hb : (g == f) = true := beq_iff_eq.mpr h
      simp only [List.lookup, hb, if_pos h]
    · have hb : (g == f) = false := beq_eq_false_iff_ne.mpr h
      simp only [List.lookup, hb, if_neg h]
  | (k, x) :: r => by
    have ih := lookup_putF f g v r
    rw [show putF f v ((k, x) :: r) = (if k = f then (k, v) :: r else (k, x) :: putF f v r) from rfl]
    by_cases hk : k = f
    · rw [if_pos hk]
      by_cases h : g = k
      · have hb : (g == k) = true := beq_iff_eq.mpr h
        simp only [List.lookup, hb, if_pos (h.trans hk)]
      · have hb : (g == k) = false := beq_eq_false_iff_ne.mpr h
        simp only [List.lookup, hb, if_neg (fun e : g = f => h (e.trans hk.symm))]
    · rw [if_neg hk]
      by_cases h : g = k
      · have hb : (g == k) = true := beq_iff_eq.mpr h
        simp only [List.lookup, hb, if_neg (fun e : g = f => hk (h.symm.trans e))]
      · have hb : (g == k) = false := beq_eq_false_iff_ne.mpr h
        simp only [List.lookup, hb]
        exact ih
theorem keys_putF (f : Str) (v : V) : ∀ fs : List (Str × V), f ∈ (putF f v fs).map (·.1) ∧ ∀ g, g ∈ fs.map (·.1) → g ∈ (putF f v fs).map (·.1)
  | [] => ⟨by simp [putF], fun g h => by simp at h⟩
  | (k, x) :: r => by
    obtain ⟨i1, i2⟩ := keys_putF f v r
    rw [show putF f v ((k, x) :: r) = (if k = f then (k, v) :: r else (k, x) :: putF f v r) from rfl]
    by_cases hk : k = f
    · rw [if_pos hk]
      subst hk
      exact ⟨by simp, fun g h => by simpa using h⟩
    · rw [if_neg hk]
      refine ⟨?_, fun g h => ?_⟩
      · rw [List.map_cons]
        exact List.mem_cons_of_mem _ i1
      · rw [List.map_cons] at h ⊢
        rcases List.mem_cons.mp h with e | e
        · exact List.mem_cons.mpr (.inl e)
        · exact List.mem_cons_of_mem _ (i2 g e)
theorem length_putF (f : Str) (v : V) : ∀ fs : List (Str × V), (putF f v fs).length ≤ fs.length + 1
  | [] => by simp [putF]
  | (k, x) :: r => by
    have ih := length_putF f v r
    rw [show putF f v ((k, x) :: r) = (if k = f then (k, v) :: r else (k, x) :: putF f v r) from rfl]
    by_cases hk : k = f
    · rw [if_pos hk, List.length_cons, List.length_cons]; omega
    · rw [if_neg hk, List.length_cons, List.length_cons]; omega

theorem RelO.some_of {v : V} {o : Option Value} (r : RelO (some v) o) : ∃ u, o = some u ∧ RelV v u := by
  cases o with
  | none => exact (show False from r).elim
  | some u => exact ⟨u, rfl, r⟩
theorem handed_of {v : V} {u : Value} (r : RelV v u) : PySem.W.handedIn u = true := by
  cases v with
  | non => cases (show u = Value.none from r); rfl
  | bl b => cases (show u = Value.bool b from r); rfl
  | int i => obtain ⟨t, e⟩ := (show ∃ t, u = Value.int i t from r); cases e; rfl
  | str x => obtain ⟨t, e⟩ := (show ∃ t, u = Value.str x t from r); cases e; rfl
  | byt b => obtain ⟨t, e⟩ := (show ∃ t, u = Value.bytes b t from r); cases e; rfl
  | flt b => obtain ⟨t, e⟩ := (show ∃ t, u = Value.float b t from r); cases e; rfl
  | ref a => cases (show u = Value.ref a from r); rfl
  | ty n => cases (show u = Value.type n from r); rfl

section
variable {P : Program} {w : World} {H H' : Hp} {h h' : Heap} {a C dx : Addr} {fs fs' : List (Str × V)}
theorem ins_get (hok : HOk P w H h) (e : H a = some (.ins C dx fs)) : ∃ mA, ObjM h a dx C mA ∧ (∀ f, RelO (fs.lookup f) (mA f)) ∧ PySem.Within mA (fs.map (·.1)) ∧ fs.length ≤ 1000 ∧ H dx = some (.own a) := by
  obtain ⟨d, z, ne, ob, mA, n, r, q⟩ := (show ObjOk P w H h a (.ins C dx fs) from hok a _ e)
  exact ⟨mA, ⟨ob, n, ne⟩, r, q, z, d⟩
end

/-! ### what of the text a class must have -/
structure Cls (K : PySem.W.Frag) (C : Addr) : Prop where
  pg : PySem.W.plainGet K C Str.empty = true
  hd : PySem.W.hasDictIn K C = true
  po : PySem.W.plainOver K C = true
  sa : PySem.W.findIn K (.ref C) "__setattr__" = some (some (.builtin "object.__setattr__"))
theorem Cls.get {K : PySem.W.Frag} {C : Addr} (c : Cls K C) (f : Str) : PySem.W.plainGet K C f = true := c.pg
/-- no class of it has the name -/
def NoAttr (K : PySem.W.Frag) (C : Addr) (f : Str) : Prop := PySem.W.findIn K (.ref C) f = some none
theorem NoAttr.taker {K : PySem.W.Frag} {C : Addr} {f : Str} (n : NoAttr K C f) : PySem.W.takerIn K C f = some none := by
  unfold PySem.W.takerIn
  rw [show PySem.W.findIn K (.ref C) f = some none from n]
  rfl
/-- a constant of the class -/
structure Con (K : PySem.W.Frag) (C : Addr) (f : Str) (v : V) (u : Value) : Prop where
  at_ : PySem.W.findIn K (.ref C) f = some (some u)
  rel : RelV v u
  get : PySem.W.specialIn K u "__get__" = some none
  cp : PySem.W.copiedNames.contains f = false
/-- a method: a plain def of the class or of one above it -/
structure Meth (K : PySem.W.Frag) (C : Addr) (m : Str) (f : Addr) : Prop where
  at_ : PySem.W.findIn K (.ref C) m = some (some (.ref f))
  fn : PySem.W.isFn K (.ref f) = true
  kp : PySem.W.keepIn K (.ref f) = true

section
variable {X : Cx} {pins : List (Addr × Obj)} {σ : St} {H : Hp} {s : Shared} {a C dx : Addr} {fs : List (Str × V)} {f : Str} {v : V} {A : Around} {E : Value → Shared → Prop}

theorem setattr_ok {y : V} {u : Value} {Q : Unit → Shared → Prop} (I : Inv X pins σ H s) (e : H a = some (.ins C dx fs)) (c : Cls X.K C) (n : NoAttr X.K C f) (hl : fs.length < 1000) (ry : RelV y u)
    (h : ∀ s', Inv X pins σ (upd H a (.ins C dx (putF f y fs))) s' → Q () s') : wpAny (model X.prog X.w) A (setAttr (.ref a) f u) Q E s := by
  obtain ⟨mA, O, r, wi, _, ho⟩ := ins_get I.hok e
  have hz : (fs.map (·.1)).length ≤ sizeLine := by rw [List.length_map, sizeLine_eq]; omega
  refine set_map I.kIn O c.sa c.po n.taker c.hd wi hz fun h' O' sb => h _ ?_
  have hd : ∃ o, h'.get? dx = some o := let ⟨o, _, _, e', _⟩ := O'.ns; ⟨o, e'⟩
  refine I.write (x := a) (e := dx) (by rw [e]; exact True.intro) (.inr ho) (fun b q hb z => (sb.2 b hb).trans z) hd ?_
  refine ⟨by rw [upd_ne O.ne]; exact ho, ?_, O.ne, O'.obj, _, O'.ns, fun g => ?_, fun g hg => ?_⟩
  · have := length_putF f y fs; omega
  · show RelO ((putF f y fs).lookup g) (if g = f then some u else mA g)
    rw [lookup_putF]
    by_cases q : g = f
    · rw [if_pos q, if_pos q]; exact ry
    · rw [if_neg q, if_neg q]; exact r g
  · by_cases q : g = f
    · rw [q]; exact (keys_putF f y fs).1
    · refine (keys_putF f y fs).2 g (wi g fun z => hg ?_)
      show (if g = f then some u else mA g) = none
      rw [if_neg q]; exact z

/-- a new instance, tracked, without attributes -/
theorem Inv.made (I : Inv X pins σ H s) : Inv X pins σ (upd (upd H s.heap.objs.size (.own (s.heap.objs.size + 1))) (s.heap.objs.size + 1) (.ins C s.heap.objs.size []))
    { s with heap := (s.heap.push PySem.W.emptyDict).push (PySem.W.instObj C s.heap.objs.size) } := by
  have e1 : (s.heap.push PySem.W.emptyDict).get? s.heap.objs.size = some PySem.W.emptyDict := Heap.get?_push_size s.heap rfl
  have e2 : ((s.heap.push PySem.W.emptyDict).push (PySem.W.instObj C s.heap.objs.size)).get? (s.heap.objs.size + 1) = some (PySem.W.instObj C s.heap.objs.size) := by
    have := Heap.get?_push_size (s.heap.push PySem.W.emptyDict) (o := PySem.W.instObj C s.heap.objs.size) rfl
    rwa [Heap.size_push] at this
  have e3 : (s.heap.push PySem.W.emptyDict).Ns s.heap.objs.size (fun _ => none) := ⟨PySem.W.emptyDict, #[], _, e1, rfl, (fun e he => absurd he (by simp)), fun _ => rfl⟩
  have I1 := I.laid (a := s.heap.objs.size) (o := .own (s.heap.objs.size + 1)) (h' := s.heap.push PySem.W.emptyDict) (t' := s.toks) (fun b u q => Heap.get?_push_of_some _ q) (Nat.le_refl _) ⟨_, e1⟩
  refine I1.laid (a := s.heap.objs.size + 1) (o := .ins C s.heap.objs.size []) (t' := s.toks) (fun b u q => Heap.get?_push_of_some _ q) (Nat.le_of_eq (Heap.size_push _ _)) ?_
  have ne : s.heap.objs.size ≠ s.heap.objs.size + 1 := Nat.ne_of_lt (Nat.lt_succ_self _)
  refine ⟨by rw [upd_ne ne, upd_same], Nat.zero_le _, ne, e2, fun _ => none, (Heap.Ns1.of_empty e3).at fun o q => Heap.get?_push_of_some _ q, fun _ => True.intro, fun y hy => absurd rfl hy⟩

/-- e.f where nothing but the object is asked: through attributeBase (super) and the last hold -/
theorem attr_of {prog : Program} {w : World} {env : Env} {e : Expr} {f : Str} {pos : Pos} {s : Shared} {Q : Value → Shared → Prop} (hb : attributeBase e f env (eval e env) = eval e env)
    (h : wpAny (model prog w) A (eval e env) (fun o s₁ => wpAny (model prog w) A (getAttr o f true) Q E s₁) E s) : wpAny (model prog w) A (eval (.Attribute e f pos) env) Q E s :=
  Attribute_any_ h (by rw [arm_eval_Attribute, hb])
end

/-! ### readings and rules -/
/-- e.f, an attribute of the instance -/
def tFld (K : PySem.W.Frag) (ta : TE) (f : Str) : TE := fun σ H Q => ta σ H fun x H1 => ∃ a C dx fs v, x = .ref a ∧ H1 a = some (.ins C dx fs) ∧ Cls K C ∧ NoAttr K C f ∧ fs.lookup f = some v ∧ Q v H1
/-- e.f, a constant of the class -/
def tCon (K : PySem.W.Frag) (ta : TE) (f : Str) : TE := fun σ H Q => ta σ H fun x H1 => ∃ a C dx fs v u, x = .ref a ∧ H1 a = some (.ins C dx fs) ∧ Cls K C ∧ Con K C f v u ∧ fs.lookup f = none ∧ Q v H1
/-- e.f = value -/
def sFld (K : PySem.W.Frag) (ta tv : TE) (f : Str) : TS := fun D σ H => tv σ H fun y H1 => ta σ H1 fun x H2 => ∃ a C dx fs, x = .ref a ∧ H2 a = some (.ins C dx fs) ∧ Cls K C ∧ NoAttr K C f ∧ fs.length < 1000 ∧
  D.nx σ (upd H2 a (.ins C dx (putF f y fs)))
/-- an augmented operator on two values -/
def InOp (X : Cx) (op : Operator) (rd : V → V → Hp → VK → Prop) : Prop :=
  ∀ (pins : List (Addr × Obj)) (s : Shared) (σ : St) (H : Hp) (x y : V) (u v : Value) (Q : VK), Inv X pins σ H s → RelV x u → RelV y v → rd x y H Q → wpAny (model X.prog X.w) X.A (inplaceOp op u v) (EP X pins σ Q) X.xe s
/-- e.f op= value -/
def sFldAug (K : PySem.W.Frag) (ta tv : TE) (rd : V → V → Hp → VK → Prop) (f : Str) : TS := fun D σ H => ta σ H fun x H1 => ∃ a C dx fs v, x = .ref a ∧ H1 a = some (.ins C dx fs) ∧ Cls K C ∧ NoAttr K C f ∧ fs.lookup f = some v ∧
  tv σ H1 fun y H2 => rd v y H2 fun z H3 => ∃ dx' fs', H3 a = some (.ins C dx' fs') ∧ fs'.length < 1000 ∧ D.nx σ (upd H3 a (.ins C dx' (putF f z fs')))

section
variable {X : Cx} {o e value : Expr} {f : Str} {pos pos' tpos : Pos} {ta tv : TE}
theorem ps_fld (ha : PE X o ta) (hv : PE X value tv) (hs : swapsWith value (some (.Attribute o f pos')) pos.line X.env = pure false) : PS X (.Assign [.Attribute o f pos'] value pos) (sFld X.K ta tv f) := by
  intro pins s σ H D I h
  refine plainObj_wpAny_Assign_Attribute (thn (hv pins s σ H _ I h) fun u s1 ⟨y, H1, I1, ry, q⟩ => thn (ha pins s1 σ H1 _ I1 q) fun ov s2 ⟨x, H2, I2, rx, a, C, dx, fs, ex, ea, c, n, l, q2⟩ => ?_) hs
  subst ex
  obtain rfl : ov = Value.ref a := rx
  exact setattr_ok I2 ea c n l ry fun s3 I3 => ⟨σ, _, I3, q2⟩
def rAdd : V → V → Hp → VK → Prop := fun x y H Q => ∃ i j, x = .int i ∧ y = .int j ∧ Q (.int (i + j)) H
def rSub : V → V → Hp → VK → Prop := fun x y H Q => ∃ i j, x = .int i ∧ y = .int j ∧ Q (.int (i - j)) H
end

/-! ### isinstance -/
section
variable {X : Cx} {pins : List (Addr × Obj)} {σ : St} {H : Hp} {s : Shared} {A : Around} {E : Value → Shared → Prop} {Q : Value → Shared → Prop} {c : Value} {b : Bool}
/-- the type of a value, as the fragment's deciders take it; for an instance its class -/
inductive TyOf (K : PySem.W.Frag) (H : Hp) : V → Value → Prop where
  | non : TyOf K H .non (.type "NoneType")
  | bl (x : Bool) : TyOf K H (.bl x) (.type "bool")
  | int (i : Int) : TyOf K H (.int i) (.type "int")
  | str (x : Str) : TyOf K H (.str x) (.type "str")
  | flt (x : UInt64) : TyOf K H (.flt x) (.type "float")
  | lst {a : Addr} {xs : List V} (e : H a = some (.lst xs)) : TyOf K H (.ref a) (.type "list")
  | frz {a : Addr} {o : Obj} {xs : List V} (e : H a = some (.frz o (.lst xs))) : TyOf K H (.ref a) (.type "list")
  | tup {a : Addr} {xs : List V} (e : H a = some (.tup xs)) : TyOf K H (.ref a) (.type "tuple")
  | dK {a : Addr} {kvs : List (Key × V)} (e : H a = some (.dK kvs)) : TyOf K H (.ref a) (.type "dict")
  | dT {a : Addr} {kvs : List (List Key × V)} (e : H a = some (.dT kvs)) : TyOf K H (.ref a) (.type "dict")
  | ins {a C dx : Addr} {fs : List (Str × V)} (e : H a = some (.ins C dx fs)) (cl : Cls K C) (ha : PySem.W.findIn K (.ref C) "__class__" = some (some (.builtin "object.__class__")))
      (hn : PySem.W.specialIn K (.builtin "object.__class__") "__get__" = some (some (.builtin "getset_descriptor.__get__"))) (htk : PySem.W.takesIn K (.builtin "object.__class__") = some true)
      (hm : PySem.W.mroIn K C (.type "object") = some true) : TyOf K H (.ref a) (.ref C)
/-- isinstance(x, c) for one class c, a built-in or an own one: kitOne's answer -/
theorem isinst_ok {x : V} {u t : Value} (I : Inv X pins σ H s) (rx : RelV x u) (ty : TyOf X.K H x t) (e : PySem.W.kitOne X.K t c = some b) (h : ∀ tk, Q (.bool b) { s with toks := tk }) :
    wpAny (model X.prog X.w) A (call (.builtin "isinstance") [u, c]) Q E s := by
  cases ty with
  | non => cases (show u = Value.none from rx); exact PySem.W.kia_one PySem.W.kitx_none I.kIn True.intro e (fun z => nomatch z) h
  | bl y => cases (show u = Value.bool y from rx); exact PySem.W.kia_one PySem.W.kitx_bool I.kIn True.intro e (fun z => nomatch z) h
  | int i => obtain ⟨t, q⟩ := (show ∃ t, u = Value.int i t from rx); cases q; exact PySem.W.kia_one PySem.W.kitx_int I.kIn True.intro e (fun z => nomatch z) h
  | str y => obtain ⟨t, q⟩ := (show ∃ t, u = Value.str y t from rx); cases q; exact PySem.W.kia_one PySem.W.kitx_str I.kIn True.intro e (fun z => nomatch z) h
  | flt y => obtain ⟨t, q⟩ := (show ∃ t, u = Value.float y t from rx); cases q; exact PySem.W.kia_one PySem.W.kitx_float I.kIn True.intro e (fun z => nomatch z) h
  | @lst a xs ea =>
    cases (show u = Value.ref a from rx)
    obtain ⟨_, _, n, _, h1⟩ := (show ObjOk X.prog X.w H s.heap a (.lst xs) from I.hok a _ ea)
    exact PySem.W.kia_one PySem.W.kitx_list I.kIn ⟨_, h1, rfl⟩ e (fun z => nomatch z) h
  | @frz a ob xs ea =>
    cases (show u = Value.ref a from rx)
    obtain ⟨_, _, _, n, _, h1⟩ := (show ObjOk X.prog X.w H s.heap a (.frz ob (.lst xs)) from I.hok a _ ea)
    exact PySem.W.kia_one PySem.W.kitx_list I.kIn ⟨_, h1, rfl⟩ e (fun z => nomatch z) h
  | @tup a xs ea =>
    cases (show u = Value.ref a from rx)
    obtain ⟨_, _, _, p⟩ := (show ObjOk X.prog X.w H s.heap a (.tup xs) from I.hok a _ ea)
    obtain ⟨o, h1, h2, _⟩ := p
    exact PySem.W.kia_one PySem.W.kitx_tuple I.kIn ⟨o, h1, h2⟩ e (fun z => nomatch z) h
  | @dK a kvs ea =>
    cases (show u = Value.ref a from rx)
    obtain ⟨_, _, vs, _, p⟩ := (show ObjOk X.prog X.w H s.heap a (.dK kvs) from I.hok a _ ea)
    obtain ⟨o, es, ep, h1, h2, _⟩ := p
    exact PySem.W.kia_one PySem.W.kitx_dict I.kIn ⟨o, h1, h2.1⟩ e (fun z => nomatch z) h
  | @dT a kvs ea =>
    cases (show u = Value.ref a from rx)
    obtain ⟨_, _, xs, _, o, es, ep, h1, h2, _⟩ := (show ObjOk X.prog X.w H s.heap a (.dT kvs) from I.hok a _ ea)
    exact PySem.W.kia_one PySem.W.kitx_dict I.kIn ⟨o, h1, h2.1⟩ e (fun z => nomatch z) h
  | @ins a C dx fs ea cl ha hn htk hm =>
    cases (show u = Value.ref a from rx)
    obtain ⟨mA, O, _⟩ := ins_get I.hok ea
    obtain ⟨od, J, _⟩ := O.look
    exact PySem.W.kia_one (PySem.W.kitx_own (cl.get _) cl.hd ha hn htk hm) I.kIn J e (fun z => nomatch z) h
end
end L2

namespace L2
open PySem PySem.Spec PyProof.Rows

/-! ### room -/
structure Room (k : Nat) (A : Around) : Prop where
  hd : A.handled = none
  dp : A.depth + 3 * k + 5 < recursionLimit
  un : A.units + 16 * k + 200 < cLine
theorem Room.mono {j k : Nat} {A : Around} (r : Room k A) (h : j ≤ k) : Room j A := ⟨r.hd, by have := r.dp; omega, by have := r.un; omega⟩
theorem Room.deeper {k : Nat} {A : Around} (r : Room (k + 1) A) (env : Env) : Room k (A.deeper env) :=
  ⟨r.hd, by have := r.dp; show A.depth + 1 + 3 * k + 5 < _; omega, by have := r.un; show A.units + 3 + 16 * k + 200 < _; omega⟩
theorem make_depth {A : Around} {C : Addr} {us : List Value} {kw : List (Str × Value)} : (A.under (.builtin "type.__call__" ⟨.ref C :: us, kw⟩)).depth = A.depth + 1 := by
  first | rfl | simp [Around.under, Code.weight, Code.isCreation, Code.isGuard, Code.isCaller, Code.frames, Code.isFrame, guardIds]
theorem make_units {A : Around} {C : Addr} {us : List Value} {kw : List (Str × Value)} : (A.under (.builtin "type.__call__" ⟨.ref C :: us, kw⟩)).units = A.units + 1 := by
  first | rfl | simp [Around.under, Code.cUnits, Code.frames, Code.isFrame]
theorem Room.make {k : Nat} {A : Around} (r : Room (k + 1) A) (C : Addr) (us : List Value) (kw : List (Str × Value)) : Room k (A.under (.builtin "type.__call__" ⟨.ref C :: us, kw⟩)) :=
  ⟨r.hd, by have := r.dp; rw [make_depth]; omega, by have := r.un; rw [make_units]; omega⟩
theorem Room.depth {k : Nat} {A : Around} (r : Room k A) : A.depth < recursionLimit := by have := r.dp; omega
theorem Room.units {k : Nat} {A : Around} (r : Room k A) : A.units + 64 < cLine := by have := r.un; omega
/-! ### argument lists and displays -/
def tNil : TA := fun _ H Q => Q [] H
def tCons (ta : TE) (tr : TA) : TA := fun σ H Q => ta σ H fun x H1 => tr σ H1 fun xs H2 => Q (x :: xs) H2
section
variable {X : Cx} {e : Expr} {es : List Expr} {te : TE} {t : TA} {pos : Pos}
theorem pa_nil : PA X [] tNil := fun _ _ _ _ H Q I h => Calls.spliced_nil ⟨[], H, I, .nil, h⟩
theorem pa_cons (ha : PE X e te) (hr : PA X es t) (hs : starEach (e :: es) X.env = (false, eval e X.env) :: starEach es X.env := by rfl) : PA X (e :: es) (tCons te t) := by
  intro pos pins s σ H Q I h
  rw [hs]
  show wpAny _ _ (spliced ((false, eval e X.env) :: backTo pos (starEach es X.env))) _ _ s
  refine Calls.spliced_cons (thn (ha pins s σ H _ I h) fun u s1 ⟨x, H1, I1, r1, q1⟩ => ?_)
  exact thn (hr pos pins s1 σ H1 _ I1 q1) fun us s2 ⟨xs, H2, I2, r2, q2⟩ => ⟨x :: xs, H2, I2, .cons r1 r2, q2⟩

/-- a tuple, a list of written items -/
def tTup (t : TA) : TE := fun σ H Q => t σ H fun xs H1 => xs.length ≤ sizeLine ∧ ∀ p, H1 p = none → Q (.ref p) (upd H1 p (.tup xs))
def tLst (t : TA) : TE := fun σ H Q => t σ H fun xs H1 => xs.length ≤ sizeLine ∧ ∀ p, H1 p = none → Q (.ref p) (upd H1 p (.lst xs))
theorem pe_tup {x1} (h : PA X es t) : PE X (.Tuple es x1 pos) (tTup t) := by
  intro pins s σ H Q I hq
  refine wpAny_Tuple_spliced (thn (h pos pins s σ H _ I hq) fun us s1 ⟨xs, H1, I1, r, z, q⟩ => ⟨by rw [← r.length]; exact z, ?_⟩)
  have hf : H1 s1.heap.objs.size = none := I1.hok.fresh (Nat.le_refl _)
  refine ⟨.ref s1.heap.objs.size, upd H1 s1.heap.objs.size (.tup xs), I1.laid (t' := s1.toks) (fun b u e => Heap.get?_push_of_some _ e) (Nat.le_refl _) ?_, rfl, q _ hf⟩
  exact ⟨z, us, r, ⟨_, Heap.get?_push_size _ rfl, rfl, _, rfl⟩⟩
theorem pe_lst (h : PA X es t) : PE X (.List es pos) (tLst t) := by
  intro pins s σ H Q I hq
  refine wpAny_List_spliced (thn (h pos pins s σ H _ I hq) fun us s1 ⟨xs, H1, I1, r, z, q⟩ => ⟨by rw [← r.length]; exact z, ?_⟩)
  have hf : H1 s1.heap.objs.size = none := I1.hok.fresh (Nat.le_refl _)
  refine ⟨.ref s1.heap.objs.size, upd H1 s1.heap.objs.size (.lst xs), I1.laid (t' := s1.toks) (fun b u e => Heap.get?_push_of_some _ e) (Nat.le_refl _) ?_, rfl, q _ hf⟩
  exact ⟨z, us, 0, r, Heap.get?_push_size _ rfl⟩
end

/-! ### what a def promises -/
/-- a def's promise: the bound arguments in the parameters' order, the heap, the wanted end, the wanted exception -/
abbrev Sp := List V → Hp → VK → XK → Prop
/-- how an exception lies behind a call (file 08 gives it): the callers' frames, abstract heap and state ahead of the call, the wish, the exception, the state -/
abbrev CXT := List Env → Hp → Shared → XK → Value → Shared → Prop

/-- the state at a call -/
structure Env0 (P : Program) (w : World) (K : PySem.W.Frag) (mg : Str → Option Value) (base : Heap) (A : Around) (outer : List Env) (s : Shared) (H : Hp) : Prop where
  frames : A.frames = some outer
  mod : Mod K mg base
  bs : ∀ b o, base.get? b = some o → s.heap.get? b = some o ∧ H b = none
  bsz : base.objs.size ≤ s.heap.objs.size
  funs : s.heap.FunFrames base outer
  frf : ∀ b ∈ frs outer, H b = none
  hok : HOk P w H s.heap
  bare : AllBare s.gens
/-- a call's end -/
def CE (outer : List Env) (P : Program) (w : World) (H : Hp) (s : Shared) (Q : VK) (u : Value) (s' : Shared) : Prop :=
  ∃ v H', s'.os = s.os ∧ AllBare s'.gens ∧ Un (frs outer) [] H H' s.heap s'.heap ∧ HOk P w H' s'.heap ∧ RelV v u ∧ Q v H'
def CR (CX : CXT) (outer : List Env) (P : Program) (w : World) (H : Hp) (s : Shared) (Q : VK) (E : XK) (r : Result) (s' : Shared) : Prop :=
  match r with
  | .ok (.ret u) => CE outer P w H s Q u s'
  | .ok _ => False
  | .error e => CX outer H s E e s'
structure FnOk (P : Program) (w : World) (K : PySem.W.Frag) (mg : Str → Option Value) (base : Heap) (CX : CXT) (k : Nat) (f : Addr) (fd : FuncData) (ps : List Str) (sp : Sp) : Prop where
  len : ∀ vs H Q E, sp vs H Q E → vs.length = ps.length
  run : ∀ (A : Around) (outer : List Env) (s : Shared) (H : Hp) (args : Args) (us : List Value) (vs : List V) (Q : VK) (E : XK), Room k A → Env0 P w K mg base A outer s H → BindsTo s fd args (ps.zip us) → Vals vs us → sp vs H Q E →
    codeAny (model P w) A (.call (.ref f) args) (CR CX outer P w H s Q E) s
/-- a weaker promise -/
theorem FnOk.imp {P : Program} {w : World} {K : PySem.W.Frag} {mg : Str → Option Value} {base : Heap} {CX : CXT} {k : Nat} {f : Addr} {fd : FuncData} {ps : List Str} {sp sp' : Sp} (F : FnOk P w K mg base CX k f fd ps sp)
    (h : ∀ vs H Q E, sp' vs H Q E → sp vs H Q E) : FnOk P w K mg base CX k f fd ps sp' :=
  ⟨fun vs H Q E q => F.len vs H Q E (h _ _ _ _ q), fun A outer s H args us vs Q E hr he hb hv hs => F.run A outer s H args us vs Q E hr he hb hv (h _ _ _ _ hs)⟩

theorem Env0.make {P : Program} {w : World} {K : PySem.W.Frag} {mg : Str → Option Value} {base : Heap} {A : Around} {outer : List Env} {s : Shared} {H : Hp} (e : Env0 P w K mg base A outer s H) (C : Addr) (us : List Value) (kw : List (Str × Value)) :
    Env0 P w K mg base (A.under (.builtin "type.__call__" ⟨.ref C :: us, kw⟩)) outer s H := ⟨by first | exact e.frames | (simpa [Around.under, Code.envs, Code.isFrame, pushEnvs] using e.frames), e.mod, e.bs, e.bsz, e.funs, e.frf, e.hok, e.bare⟩
section
variable {X : Cx} {pins : List (Addr × Obj)} {σ : St} {H : Hp} {s s' : Shared}
/-- from a body: what a callee wants -/
theorem Inv.env0 (I : Inv X pins σ H s) : Env0 X.prog X.w X.K X.mg X.base X.A X.stack s H :=
  ⟨I.ok.frames, I.ok.mod, I.bs, Nat.le_trans I.ok.bsz I.sz, I.stack, I.stkFree, I.hok, I.bare⟩
/-- behind a call -/
theorem Inv.after {Q : VK} {u : Value} (I : Inv X pins σ H s) (h : CE X.stack X.prog X.w H s Q u s') : EP X pins σ Q u s' := by
  obtain ⟨v, H', os, bare, un, hok, r, q⟩ := h
  obtain ⟨hh, g, d, t, os'⟩ := s'
  obtain rfl : os' = s.os := os
  exact ⟨v, H', I.call (h' := hh) (g' := g) (d' := d) (t' := t) (ch := []) un hok bare (fun b z => absurd z (by simp)), r, q⟩
end

/-! ### calls -/
/-- f(..): the written arguments, then the defaults dvs; E: what is wanted of an exception -/
def tCall (sp : Sp) (dvs : List V) (E : XK) (t : TA) : TE := fun σ H Q => t σ H fun vs H1 => sp (vs ++ dvs) H1 Q E
/-- o.m(..) of an instance of the class at C -/
def tMeth (C : Addr) (m : Str) (sp : Sp) (dvs : List V) (E : XK) (ta : TE) (t : TA) : TE := fun σ H Q => ta σ H fun x H1 => ∃ a dx fs, x = .ref a ∧ H1 a = some (.ins C dx fs) ∧ fs.lookup m = none ∧
  t σ H1 fun vs H2 => sp (x :: (vs ++ dvs)) H2 Q E
/-- C(..): a new instance and its dict, then __init__ -/
def tMake (C : Addr) (sp : Sp) (dvs : List V) (E : XK) (t : TA) : TE := fun σ H Q => t σ H fun vs H1 => ∀ x dx, H1 x = none → H1 dx = none → dx ≠ x →
  sp (.ref x :: (vs ++ dvs)) (upd (upd H1 dx (.own x)) x (.ins C dx [])) (fun v H2 => v = .non ∧ Q (.ref x) H2) E

/-- how the parameters are bound: us the positional arguments, kw the keywords' values by name, ds the defaults that fill up -/
def Binds (K : PySem.W.Frag) (fd : FuncData) (ps : List Str) (ds : List Value) : Prop :=
  ∀ (s : Shared) (us : List Value), K.In s.heap → (us ++ ds).length = ps.length → BindsTo s fd ⟨us, []⟩ (ps.zip (us ++ ds))
/-- every parameter is given -/
theorem Binds.all {K : PySem.W.Frag} {fd : FuncData} {ps : List Str} (h : ∀ us : List Value, us.length = ps.length → bindArgs fd ⟨us, []⟩ = pure (ps.zip us)) : Binds K fd ps [] := fun s us _ hl => by
  rw [List.append_nil] at hl ⊢
  exact .of_eq (h us hl)

/-- an exception of a callee reaches what this body wants of exceptions -/
def Passes (CX : CXT) (X : Cx) (E : XK) : Prop := ∀ (pins : List (Addr × Obj)) (σ : St) (H : Hp) (s : Shared) (e : Value) (s' : Shared), Inv X pins σ H s → CX X.stack H s E e s' → X.xe e s'

section
variable {X : Cx} {CX : CXT} {k : Nat} {f C : Addr} {fd : FuncData} {ps : List Str} {sp : Sp} {dvs : List V} {ds : List Value} {E : XK} {x m : Str} {p pos apos : Pos} {e o : Expr} {es : List Expr} {ta : TE} {t : TA}

/-- the callee runs -/
theorem run_fn {pins : List (Addr × Obj)} {σ : St} {H : Hp} {s : Shared} {Q : VK} {us : List Value} {vs : List V} (F : FnOk X.prog X.w X.K X.mg X.base CX k f fd ps sp) (hr : Room k X.A) (hb : Binds X.K fd ps ds) (hd : Vals dvs ds) (hx : Passes CX X E)
    (I : Inv X pins σ H s) (r : Vals vs us) (h : sp (vs ++ dvs) H Q E) : wpAny (model X.prog X.w) X.A (call (.ref f) us) (EP X pins σ Q) X.xe s := by
  have r2 : Vals (vs ++ dvs) (us ++ ds) := r.append hd
  have hl : (us ++ ds).length = ps.length := by rw [← r2.length]; exact F.len _ _ _ _ h
  refine wpAny_call (codeAny_mono (F.run X.A X.stack s H ⟨us, []⟩ (us ++ ds) (vs ++ dvs) Q E hr I.env0 (hb s us I.kIn hl) r2 h) fun r s' hq => ?_)
  cases r with
  | error e => exact hx pins σ H s e s' I hq
  | ok fl =>
    cases fl with
    | ret u => exact I.after hq
    | next => exact False.elim hq
    | brk => exact False.elim hq
    | cont => exact False.elim hq

theorem pe_call (F : FnOk X.prog X.w X.K X.mg X.base CX k f fd ps sp) (hr : Room k X.A) (hg : Gl X x) (hm : X.mg x = some (.ref f)) (hk : PySem.W.keepIn X.K (.ref f) = true) (hb : Binds X.K fd ps ds) (hd : Vals dvs ds) (hx : Passes CX X E)
    (ha : PA X (e :: es) t) (hdb : (x == ("__debug__" : Str)) = false := by decide) (he : starEach (e :: es) X.env = (false, eval e X.env) :: starEach es X.env := by rfl) (hpl : (backTo pos (starEach es X.env)).any (·.1) = false := by rfl) :
    PE X (.Call (.Name x p) (e :: es) [] pos) (tCall sp dvs E t) := by
  intro pins s σ H Q I h
  refine wpAny_Call_Name_kw (ld_glob I hg hm ?_ hdb)
  refine PySem.W.callWith_K (h₀ := X.base) I.ok.mod.kin hk (thn (ha pos pins s σ H _ I h) fun us s1 ⟨vs, H1, I1, r, q⟩ => ⟨I1.kIn, ?_⟩) he hpl
  exact run_fn F hr hb hd hx I1 r q
/-- what a class must have to be made -/
structure Mk (K : PySem.W.Frag) (C f : Addr) : Prop where
  makes : PySem.W.makesIn K C = true
  init : PySem.W.findIn K (.ref C) "__init__" = some (some (.ref f))
  fn : PySem.W.isFn K (.ref f) = true
  kp : PySem.W.keepIn K (.ref C) = true

theorem run_make {pins : List (Addr × Obj)} {σ : St} {H : Hp} {s : Shared} {Q : VK} {us : List Value} {vs : List V} (M : Mk X.K C f) (F : FnOk X.prog X.w X.K X.mg X.base CX k f fd ps sp) (hr : Room (k + 1) X.A) (hb : Binds X.K fd ps ds) (hd : Vals dvs ds)
    (hx : Passes CX X E) (I : Inv X pins σ H s) (r : Vals vs us)
    (h : ∀ x dx, H x = none → H dx = none → dx ≠ x → sp (.ref x :: (vs ++ dvs)) (upd (upd H dx (.own x)) x (.ins C dx [])) (fun v H2 => v = .non ∧ Q (.ref x) H2) E) :
    wpAny (model X.prog X.w) X.A (call (.ref C) us) (EP X pins σ Q) X.xe s := by
  have hq := h (s.heap.objs.size + 1) s.heap.objs.size (I.hok.fresh (Nat.le_succ _)) (I.hok.fresh (Nat.le_refl _)) (Nat.ne_of_lt (Nat.lt_succ_self _))
  have I2 := Inv.made (C := C) I
  have r2 : Vals (V.ref (s.heap.objs.size + 1) :: (vs ++ dvs)) (Value.ref (s.heap.objs.size + 1) :: (us ++ ds)) := .cons rfl (r.append hd)
  have hl : (Value.ref (s.heap.objs.size + 1) :: us ++ ds).length = ps.length := by
    have e := r2.length
    rw [F.len _ _ _ _ hq] at e
    exact e.symm
  refine wpAny_call (make_map (f := f) I.kIn M.makes M.init (beq_iff_eq.mp M.fn) (codeAny_mono (F.run _ X.stack _ _ ⟨Value.ref (s.heap.objs.size + 1) :: us, []⟩ (Value.ref (s.heap.objs.size + 1) :: (us ++ ds)) _ _ E (hr.make C us [])
    (I2.env0.make C us []) (hb _ (Value.ref (s.heap.objs.size + 1) :: us) I2.kIn hl) r2 hq) fun r s' hq' => ?_))
  cases r with
  | error e => exact hx pins σ _ _ e s' I2 hq'
  | ok fl =>
    cases fl with
    | ret u =>
      obtain ⟨v, H', I3, rv, ev, q3⟩ := I2.after hq'
      subst ev
      exact ⟨rv, ⟨V.ref (s.heap.objs.size + 1), H', I3, rfl, q3⟩⟩
    | next => exact False.elim hq'
    | brk => exact False.elim hq'
    | cont => exact False.elim hq'
theorem pe_make (M : Mk X.K C f) (F : FnOk X.prog X.w X.K X.mg X.base CX k f fd ps sp) (hr : Room (k + 1) X.A) (hg : Gl X x) (hm : X.mg x = some (.ref C)) (hb : Binds X.K fd ps ds) (hd : Vals dvs ds) (hx : Passes CX X E)
    (ha : PA X (e :: es) t) (hdb : (x == ("__debug__" : Str)) = false := by decide) (he : starEach (e :: es) X.env = (false, eval e X.env) :: starEach es X.env := by rfl) (hpl : (backTo pos (starEach es X.env)).any (·.1) = false := by rfl) :
    PE X (.Call (.Name x p) (e :: es) [] pos) (tMake C sp dvs E t) := by
  intro pins s σ H Q I h
  refine wpAny_Call_Name_kw (ld_glob I hg hm ?_ hdb)
  refine PySem.W.callWith_K (h₀ := X.base) I.ok.mod.kin M.kp (thn (ha pos pins s σ H _ I h) fun us s1 ⟨vs, H1, I1, r, q⟩ => ⟨I1.kIn, ?_⟩) he hpl
  exact run_make M F hr hb hd hx I1 r q
end

/-! ### keywords -/
/-- the values of the keywords, from the left -/
def PK (X : Cx) (kws : List Keyword) (t : TA) : Prop :=
  ∀ (pos : Pos) (pins : List (Addr × Obj)) (s : Shared) (σ : St) (H : Hp) (Q : List V → Hp → Prop), Inv X pins σ H s → t σ H Q → wpAny (model X.prog X.w) X.A (evalAll ((backToKw pos (keywordEach kws X.env)).map (·.2))) (AP X pins σ Q) X.xe s
section
variable {X : Cx} {CX : CXT} {k : Nat} {f C : Addr} {fd : FuncData} {ps ks : List Str} {sp : Sp} {E : XK} {x m : Str} {p pos apos kpos : Pos} {e o : Expr} {es : List Expr} {kws : List Keyword} {te ta : TE} {t tk : TA} {nm : Option Str}
/-- how a call with keywords binds: g puts the positional values us and the keywords' values ws (names ks) in the parameters' order, defaults among them -/
structure KBinds (K : PySem.W.Frag) (fd : FuncData) (ps ks : List Str) (g : List Value → List Value → List Value) (gV : List V → List V → List V) : Prop where
  to : ∀ (s : Shared) (us ws : List Value), K.In s.heap → (g us ws).length = ps.length → BindsTo s fd ⟨us, ks.zip ws⟩ (ps.zip (g us ws))
  rel : ∀ {vs : List V} {us : List Value} {zs : List V} {ws : List Value}, Vals vs us → Vals zs ws → Vals (gV vs zs) (g us ws)
def tCallK (sp : Sp) (gV : List V → List V → List V) (E : XK) (t tk : TA) : TE := fun σ H Q => t σ H fun vs H1 => tk σ H1 fun zs H2 => sp (gV vs zs) H2 Q E
variable {g : List Value → List Value → List Value} {gV : List V → List V → List V}
end

/-! ### a def's body keeps its promise -/
/-- names: the parameters first -/
structure FnScope (N P : List Str) (sc : Scope) : Prop where
  kind : sc.kind = .function
  co : sc.isCoroutine = false
  gen : sc.isGenerator = false
  nd : N.Nodup
  pre : N.take P.length = P
  par : ∀ x ∈ P, sc.names.lookup x = some .local ∨ sc.names.lookup x = some .cell
  nofree : ∀ y ∈ sc.names, y.2 ≠ .free

theorem bindL_out {kindOf : Str → Option NameKind} {x : Str} : ∀ {binds : List (Str × Value)} {m : Str → Option Value}, (∀ v, (x, v) ∉ binds) → bindL kindOf binds m x = m x
  | [], _, _ => rfl
  | (n, v) :: r, m, h => by
    unfold bindL
    rw [bindL_out fun w hw => h w (List.mem_cons_of_mem _ hw)]
    split
    · have : x ≠ n := by rintro rfl; exact h v List.mem_cons_self
      simp [this]
    · rfl
theorem bindC_out {kindOf : Str → Option NameKind} {x : Str} : ∀ {binds : List (Str × Value)} {m : Str → Option Value}, (∀ v, (x, v) ∉ binds) → bindC kindOf binds m x = m x
  | [], _, _ => rfl
  | (n, v) :: r, m, h => by
    unfold bindC
    rw [bindC_out fun w hw => h w (List.mem_cons_of_mem _ hw)]
    split
    · rfl
    · have : x ≠ n := by rintro rfl; exact h v List.mem_cons_self
      simp [this]
theorem bindL_get {kindOf : Str → Option NameKind} {x : Str} {v : Value} : ∀ {P : List Str} {vs : List Value} {i : Nat} {m : Str → Option Value}, P.Nodup → P[i]? = some x → vs[i]? = some v → kindOf x = some .local →
    bindL kindOf (P.zip vs) m x = some v
  | [], _, _, _, _, h, _, _ => by simp at h
  | _ :: _, [], _, _, _, _, h, _ => by simp at h
  | p :: P, w :: vs, 0, m, nd, h1, h2, hk => by
    simp at h1 h2; subst h1; subst h2
    show bindL kindOf ((p, w) :: P.zip vs) m p = _
    unfold bindL
    rw [bindL_out fun v hv => (List.nodup_cons.mp nd).1 (List.of_mem_zip hv).1, if_pos hk]
    simp
  | p :: P, w :: vs, i + 1, m, nd, h1, h2, hk => by
    show bindL kindOf ((p, w) :: P.zip vs) m x = _
    unfold bindL
    exact bindL_get (i := i) (List.nodup_cons.mp nd).2 (by simpa using h1) (by simpa using h2) hk
theorem bindC_get {kindOf : Str → Option NameKind} {x : Str} {v : Value} : ∀ {P : List Str} {vs : List Value} {i : Nat} {m : Str → Option Value}, P.Nodup → P[i]? = some x → vs[i]? = some v → kindOf x ≠ some .local →
    bindC kindOf (P.zip vs) m x = some v
  | [], _, _, _, _, h, _, _ => by simp at h
  | _ :: _, [], _, _, _, _, h, _ => by simp at h
  | p :: P, w :: vs, 0, m, nd, h1, h2, hk => by
    simp at h1 h2; subst h1; subst h2
    show bindC kindOf ((p, w) :: P.zip vs) m p = _
    unfold bindC
    rw [bindC_out fun v hv => (List.nodup_cons.mp nd).1 (List.of_mem_zip hv).1, if_neg hk]
    simp
  | p :: P, w :: vs, i + 1, m, nd, h1, h2, hk => by
    show bindC kindOf ((p, w) :: P.zip vs) m x = _
    unfold bindC
    exact bindC_get (i := i) (List.nodup_cons.mp nd).2 (by simpa using h1) (by simpa using h2) hk

/-- the names' values at the entry -/
def start (N : List Str) (vs : List V) : St := vs.map some ++ List.replicate (N.length - vs.length) none

/-- the context of a def's body, at its entry; an exception leaves the frame, then lies as CX says -/
def cxOf (CX : CXT) (P : Program) (w : World) (K : PySem.W.Frag) (mg : Str → Option Value) (base : Heap) (N : List Str) (qual : Str) (scope : Scope) (f : Addr) (cd : Value) (A : Around) (outer : List Env) (s : Shared) (H : Hp) (E : XK) : Cx where
  prog := P
  w := w
  K := K
  mg := mg
  base := base
  A := A.deeper (envOfC qual scope s.heap.objs.size f cd)
  N := N
  s₀ := s
  H₀ := H
  env := envOfC qual scope s.heap.objs.size f cd
  outer := outer
  stack := envOfC qual scope s.heap.objs.size f cd :: outer
  ex := []
  calm := true
  fn := fun _ => true
  pn := []
  xe := fun e s' => wpAny (model P w) (A.deeper (envOfC qual scope s.heap.objs.size f cd)) (leaving (envOfC qual scope s.heap.objs.size f cd) e) (fun _ s'' => CX outer H s E e s'') (fun e' s'' => CX outer H s E e' s'') s'

theorem cell_has {sc : Scope} {n : Nat} {x : Str} (h : sc.names.lookup x = some .cell) : ∃ c, (cellsFrom n sc.names []).lookup x = some c := by
  have q := PySem.W.cellsFrom_some sc.names n [] (.inl h)
  exact Option.isSome_iff_exists.mp q

theorem inv_start {CX : CXT} {P : Program} {w : World} {K : PySem.W.Frag} {mg : Str → Option Value} {base : Heap} {N ps : List Str} {qual : Str} {scope : Scope} {f : Addr} {cd : Value} {A : Around} {outer : List Env} {s s1 : Shared} {H : Hp} {E : XK} {us : List Value} {vs : List V}
    (S : FnScope N ps scope) (hd : A.handled = none) (e0 : Env0 P w K mg base A outer s H) (hl : vs.length = ps.length) (r : Vals vs us)
    (x : InCallC s s.heap.objs.size (bindL (envOfC qual scope s.heap.objs.size f cd).kindOf (ps.zip us) fun _ => none) (cellsFrom (s.heap.objs.size + 1) scope.names []) (bindC (envOfC qual scope s.heap.objs.size f cd).kindOf (ps.zip us) fun _ => none) s1) :
    Inv (cxOf CX P w K mg base N qual scope f cd A outer s H E) [] (start N vs) H s1 := by
  have hpl : ps.length ≤ N.length := by have := congrArg List.length S.pre; rw [List.length_take] at this; omega
  obtain ⟨h1, tk, rfl, hk⟩ := x.done
  have noA : ∀ b : Addr, b ∉ (cxOf CX P w K mg base N qual scope f cd A outer s H E).ex := fun b z => absurd (show b ∈ ([] : List Addr) from z) (by simp)
  refine ⟨⟨e0.mod, S.kind, rfl, rfl, Nat.le_refl _, fun y z c h1 h2 => ?_, fun y hy => ?_, fun y c _ h => ?_, fun _ => hd, Around.frames_deeper e0.frames, .inr ⟨rfl, rfl⟩, fun b z => absurd z (noA b), e0.bs, e0.bsz, fun b _ _ => noA b, fun b z => absurd z (noA b), e0.funs, e0.frf⟩,
    rfl, e0.bare, Un.kept hk, ⟨_, x.toInCall.ns, fun i y v h1 h2 h3 => ?_⟩, fun y c h => ⟨_, x.cell y c h⟩, e0.hok.fresh (Nat.le_refl _), fun y c h => ?_, fun p hp => absurd (show p ∈ ([] : List (Addr × Obj)) from hp) (by simp), e0.hok.kept hk, ?_⟩
  · exact name_of_addr x.apart (PySem.mem_of_lookup h1) (PySem.mem_of_lookup h2)
  · have hy : scope.names.lookup y = some .cell ∨ scope.names.lookup y = some .free := hy
    rcases hy with hy | hy
    · exact cell_has hy
    · exact absurd rfl (S.nofree _ (PySem.mem_of_lookup hy))
  · exact Nat.le_of_lt (x.above y c (PySem.mem_of_lookup h))
  · have hi : i < vs.length := by
      unfold start at h2
      by_cases hi : i < vs.length
      · exact hi
      · rw [List.getElem?_append_right (by simpa using hi)] at h2
        rw [List.getElem?_replicate] at h2
        split at h2 <;> cases h2
    have ha : vs[i]? = some v := by
      unfold start at h2
      rw [List.getElem?_append_left (by simpa using hi), List.getElem?_map] at h2
      cases e : vs[i]? with
      | none => rw [e] at h2; cases h2
      | some a => rw [e] at h2; cases h2; rfl
    obtain ⟨u, hu, rv⟩ := r.get ha
    have hp : ps[i]? = some y := by
      rw [← S.pre, List.getElem?_take_of_lt (by omega)]; exact h1
    have ndP : ps.Nodup := by rw [← S.pre]; exact S.nd.sublist (List.take_sublist _ _)
    refine ⟨u, rv, ?_⟩
    rcases S.par y (List.mem_of_getElem? hp) with k | k
    · exact .inl ⟨k, bindL_get ndP hp hu k⟩
    · obtain ⟨c, e⟩ := cell_has (n := s.heap.objs.size + 1) k
      refine .inr ⟨.inl k, c, e, ?_⟩
      have q := x.cell y c e
      rw [bindC_get ndP hp hu (by show scope.names.lookup y ≠ _; rw [k]; decide)] at q
      exact q
  · exact e0.hok.fresh (Nat.le_of_lt (x.above y c (PySem.mem_of_lookup h)))
  · unfold start
    show _ = N.length
    rw [List.length_append, List.length_map, List.length_replicate]
    omega

/-- THE RULE: a def (or a method) of the text, by its body. The body's reading t is chosen for each entry; it is run at the parameters' values -/
theorem fn_of {CX : CXT} {P : Program} {w : World} {K : PySem.W.Frag} {mg : Str → Option Value} {base : Heap} {k : Nat} {f : Addr} {name qual : Str} {params : Arguments} {body : List Stmt} {scope : Scope} {dV kV doc pm cdv ct oc : Value} {an od : Option Addr}
    {osl : Array (Option Value)} {N ps : List Str} {sp : Sp} (lk : K.lookup f = some ⟨oc, od, .func (PySem.W.fnOf name qual params body scope dV kV doc pm an cdv ct), osl⟩) (hcd : PySem.W.codeIn K cdv qual = true) (S : FnScope N ps scope)
    (len : ∀ vs H Q E, sp vs H Q E → vs.length = ps.length)
    (hbody : ∀ (A : Around) (outer : List Env) (s : Shared) (H : Hp) (vs : List V) (Q : VK) (E : XK), Room k (A.deeper (envOfC qual scope s.heap.objs.size f cdv)) → sp vs H Q E →
      ∃ t, PSs (cxOf CX P w K mg base N qual scope f cdv A outer s H E) body t ∧ t { nx := fun _ H' => Q .non H', rt := Q } (start N vs) H) :
    FnOk P w K mg base CX (k + 1) f (PySem.W.fnOf name qual params body scope dV kV doc pm an cdv ct) ps sp := by
  refine ⟨len, fun A outer s H args us vs Q E hr e0 hb r hsp => ?_⟩
  have hl := len _ _ _ _ hsp
  have KX : K.In s.heap := e0.mod.kin.keeps fun b o e => (e0.bs b o e).1
  have lim : s.heap.NoLimit := e0.mod.nolimit.keeps fun b o e => (e0.bs b o e).1
  have hkind : ∀ y ∈ ps.zip us, scope.names.lookup y.1 = some .local ∨ (scope.names.lookup y.1 = some .cell ∧ ((cellsFrom (s.heap.objs.size + 1) scope.names []).lookup y.1).isSome = true) := fun ⟨n, v⟩ hy => by
    rcases S.par n (List.of_mem_zip hy).1 with q | q
    · exact .inl q
    · exact .inr ⟨q, PySem.W.cellsFrom_some _ _ _ (.inl q)⟩
  refine codeAny_call_function hr.depth (KX _ _ lk) rfl S.co S.gen rfl (PySem.W.codeRec_of KX hcd) (hb _ _ _ _ ?_)
  refine wpAny_newFunctionEnv_cells S.kind hkind fun env he s1 x => ?_
  subst he
  refine ⟨lim.keeps x.toInCall.keep, codeAny_func ?_⟩
  obtain ⟨t, ht, hq⟩ := hbody A outer s H vs Q E (hr.deeper _) hsp
  have I : Inv (cxOf CX P w K mg base N qual scope f cdv A outer s H E) [] (start N vs) H s1 := inv_start S hr.hd e0 hl r x
  refine wpAny_mono (ht [] s1 (start N vs) H _ I hq) (fun fl s' hs => ?_) fun e s' hs => hs
  have fin : ∀ {σ' : St} {H' : Hp} {v : V} {u : Value}, Inv (cxOf CX P w K mg base N qual scope f cdv A outer s H E) [] σ' H' s' → RelV v u → Q v H' → CE outer P w H s Q u s' :=
    fun {σ' H' v u} J rv q => ⟨v, H', J.os, J.bare, J.base, J.hok, rv, q⟩
  cases fl with
  | ret u =>
    obtain ⟨v, σ', H', J, rv, q⟩ := hs
    exact fin J rv q
  | next =>
    obtain ⟨σ', H', J, q⟩ := hs
    exact fin (v := V.non) (u := Value.none) J rfl q
  | brk =>
    obtain ⟨_, _, _, q⟩ := hs
    exact False.elim q
  | cont =>
    obtain ⟨_, _, _, q⟩ := hs
    exact False.elim q
end L2

namespace L2
open PySem PySem.Spec PyProof.Rows
section
variable {X : Cx} {x : Str} {p pos : Pos} {e : Expr} {es : List Expr} {t : TA} {id T : String} {r : List V → Hp → VK → Prop}

def tCB (r : List V → Hp → VK → Prop) (t : TA) : TE := fun σ H Q => t σ H fun vs H1 => r vs H1 Q
/-- f(e, ..), f a built-in function -/
theorem pe_callB (hc : CallR X (.builtin id) r) (hg : Gl X x) (hm : X.mg x = none) (hv : bootBuiltins x = some (.builtin id)) (ha : PA X (e :: es) t) (hn : x ≠ "__name__" := by decide) (hdb : (x == ("__debug__" : Str)) = false := by decide)
    (he : starEach (e :: es) X.env = (false, eval e X.env) :: starEach es X.env := by rfl) (hpl : (backTo pos (starEach es X.env)).any (·.1) = false := by rfl) : PE X (.Call (.Name x p) (e :: es) [] pos) (tCB r t) := by
  intro pins s σ H Q I h
  refine wpAny_Call_Name_kw (ld_blt I hg hm hv ?_ hn hdb)
  exact PyProof.Rows.callWith_builtin1 (thn (ha pos pins s σ H _ I h) fun us s1 ⟨vs, H1, I1, r1, q1⟩ => hc pins s1 σ H1 vs us Q I1 r1 q1) he hpl
/-- T(e, ..), T a built-in type -/
theorem pe_callTy (hc : CallR X (.type T) r) (hg : Gl X x) (hm : X.mg x = none) (hv : bootBuiltins x = some (.type T)) (ha : PA X (e :: es) t) (hn : x ≠ "__name__" := by decide) (hdb : (x == ("__debug__" : Str)) = false := by decide)
    (he : starEach (e :: es) X.env = (false, eval e X.env) :: starEach es X.env := by rfl) (hpl : (backTo pos (starEach es X.env)).any (·.1) = false := by rfl) : PE X (.Call (.Name x p) (e :: es) [] pos) (tCB r t) := by
  intro pins s σ H Q I h
  refine wpAny_Call_Name_kw (ld_blt I hg hm hv ?_ hn hdb)
  exact PyProof.Rows.callWith_type1 (thn (ha pos pins s σ H _ I h) fun us s1 ⟨vs, H1, I1, r1, q1⟩ => hc pins s1 σ H1 vs us Q I1 r1 q1) he hpl
end
end L2

namespace HT
open PySem PyProof.Rows

/-- t < u of tuples of ints -/
def lexLt : List Int → List Int → Bool
  | [], [] => false
  | [], _ :: _ => true
  | _ :: _, [] => false
  | x :: xs, y :: ys => if x = y then lexLt xs ys else decide (x < y)
section
open PySem.SeqAt
open PySem.AutoSeq1 (wpAny_loadPart')
open PySem.MeetsSeq PySem.MeetsSeq2 PySem.MeetsSeq3

end

section
variable {prog : Program} {w : World} {A : Around} {E : Value → Shared → Prop} {s : Shared}

/-! ### t[a:b], not the whole -/
/-- a slice's bound as a place among n (d where it is left out) -/
def sIx (n d : Nat) : Option Int → Nat
  | none => d
  | some v => if v < 0 then (v + (n : Int)).toNat else min v.toNat n
theorem sIx_none (n d : Nat) : sIx n d none = d := rfl
theorem sIx_nat (n d k : Nat) : sIx n d (some (k : Int)) = min k n := by
  show (if (k : Int) < 0 then ((k : Int) + (n : Int)).toNat else min (k : Int).toNat n) = min k n
  rw [if_neg (by omega), Int.toNat_natCast]
theorem sIx_le (n d : Nat) (hd : d ≤ n) (o : Option Int) : sIx n d o ≤ n := by
  cases o with
  | none => exact hd
  | some v =>
    show (if v < 0 then (v + (n : Int)).toNat else min v.toNat n) ≤ n
    by_cases hv : v < 0
    · rw [if_pos hv]; omega
    · rw [if_neg hv]; exact Nat.min_le_right _ _
theorem clip_eq (v : Int) (n d : Nat) : (if v < 0 then max (v + (n : Int)) 0 else min v (n : Int)) = ((sIx n d (some v) : Nat) : Int) := by
  show (if v < 0 then max (v + (n : Int)) 0 else min v (n : Int)) = (((if v < 0 then (v + (n : Int)).toNat else min v.toNat n) : Nat) : Int)
  by_cases hv : v < 0
  · simp only [if_pos hv]; omega
  · simp only [if_neg hv]; omega
theorem adjust_gen (lo hi : Option Int) (n : Nat) : Builtin.Slice.sliceAdjust lo hi 1 (n : Int) = (((sIx n 0 lo : Nat) : Int), ((sIx n n hi : Nat) : Int)) := by
  have h1 : ¬ ((1 : Int) < 0) := by omega
  unfold Builtin.Slice.sliceAdjust
  simp only [h1, if_false]
  refine Prod.ext ?_ ?_
  · cases lo with
    | none => rfl
    | some v => exact clip_eq v n 0
  · cases hi with
    | none => rfl
    | some v => exact clip_eq v n n
theorem places_gen (i j : Nat) : Builtin.Slice.slicePlaces (i : Int) (j : Int) 1 = j - i := by
  unfold Builtin.Slice.slicePlaces
  have h1 : (1 : Int) > 0 := by omega
  simp only [h1, if_true, Int.ediv_one]
  split <;> omega
theorem slicePart_ {v : Value} {o : Option Int} {Q : Option Int → Shared → Prop} (p : IsPart v o) (h : Q o s) : wpAny (model prog w) A (Builtin.Slice.slicePartIndex v) Q E s := by
  cases p with
  | none => exact slicePart_none h
  | int i t => exact slicePart_int h
theorem sliceApplied_gen {sl : Addr} {vl vu : Value} {lo hi : Option Int} {n : Nat} {Q : Int × Int × Nat → Shared → Prop} (hs : s.heap.IsSliceOf sl vl vu .none) (pl : IsPart vl lo) (pu : IsPart vu hi)
    (h : Q (((sIx n 0 lo : Nat) : Int), 1, sIx n n hi - sIx n 0 lo) s) : wpAny (model prog w) A (Builtin.Slice.sliceApplied (.ref sl) (pure (n : Int))) Q E s := by
  obtain ⟨os, hos, hcs, hds⟩ := id hs
  unfold Builtin.Slice.sliceApplied Builtin.Slice.sliceFields
  refine wpAny_bind (wpAny_bind (wpAny_field hos hds (x := vl) rfl (wpAny_bind (wpAny_field hos hds (x := vu) rfl (wpAny_bind (wpAny_field hos hds (x := .none) rfl (wpAny_pure ?_)))))))
  refine wpAny_bind (slicePart_none ?_)
  show wpAny _ _ (if ((1 : Int) == 0) = true then _ else _) _ _ s
  rw [if_neg (by decide)]
  refine wpAny_bind (slicePart_ pl (wpAny_bind (slicePart_ pu (wpAny_bind (wpAny_pure ?_)))))
  show wpAny _ _ (match Builtin.Slice.sliceAdjust lo hi 1 (n : Int) with | (lo, hi) => pure (lo, (1 : Int), Builtin.Slice.slicePlaces lo hi 1)) _ _ s
  rw [adjust_gen lo hi n]
  show wpAny _ _ (pure (((sIx n 0 lo : Nat) : Int), (1 : Int), Builtin.Slice.slicePlaces ((sIx n 0 lo : Nat) : Int) ((sIx n n hi : Nat) : Int) 1)) _ _ s
  rw [places_gen]
  exact wpAny_pure h
theorem pick_gen (xs : Array Value) (i k : Nat) : ((List.range k).filterMap fun (m : Nat) => xs[((i : Int) + (m : Int) * 1).toNat]?).toArray = ((xs.toList.drop i).take k).toArray := by
  have e : (fun (m : Nat) => xs[((i : Int) + (m : Int) * 1).toNat]?) = fun m => xs[i + m]? := by
    funext m
    have : ((i : Int) + (m : Int) * 1).toNat = i + m := by omega
    rw [this]
  rw [e]
  have := pick_run xs i k
  rw [List.filterMap_map] at this
  have e2 : ((fun x => xs[x]?) ∘ fun x => i + x) = fun m => xs[i + m]? := rfl
  rw [e2] at this
  rw [this]

theorem getItem_tuple_cut {t sl : Addr} {items : Array Value} {vl vu : Value} {lo hi : Option Int} {Q : Value → Shared → Prop} (ht : IsTup s.heap t items) (hs : s.heap.IsSliceOf sl vl vu .none) (pl : IsPart vl lo) (pu : IsPart vu hi)
    (hw : ¬ (sIx items.size 0 lo = 0 ∧ sIx items.size items.size hi = items.size))
    (h : Q (.ref s.heap.objs.size) { s with heap := s.heap.push { cls := .type "tuple", data := .seq ((items.toList.drop (sIx items.size 0 lo)).take (sIx items.size items.size hi - sIx items.size 0 lo)).toArray } })
    (hsz : items.size ≤ sizeLine) : wpAny (model prog w) A (getItem (.ref t) (.ref sl)) Q E s := by
  have htake : sizeOk (.seq ((items.toList.drop (sIx items.size 0 lo)).take (sIx items.size items.size hi - sIx items.size 0 lo)).toArray) := by
    show ((items.toList.drop (sIx items.size 0 lo)).take (sIx items.size items.size hi - sIx items.size 0 lo)).toArray.size ≤ sizeLine
    rw [List.size_toArray, List.length_take, List.length_drop, Array.length_toList]
    omega
  have hj : sIx items.size items.size hi ≤ items.size := sIx_le _ _ (Nat.le_refl _) hi
  obtain ⟨os, hos, hcs, hds⟩ := id hs
  have hTs : s.TypeIs (.ref sl) "slice" := ⟨os, hos, hcs⟩
  unfold getItem
  try with_reducible refine wpAny_holding ?_
  first | refine wpAny_bind (wpAny_pure ?_) | skip
  refine wpAny_bind (wpAny_sequenceKey ht.typeIs (by decide) ?_)
  refine wpAny_bind (wpAny_callSpecial?_slot (name := Str.ofString "__getitem__") ht.typeIs PyProof.Rows.slot_tuple_getitem
    (wpAny_call_entry PyProof.Rows.slot_tuple_getitem ht.typeIs entry_tuple_getitem ?_ (args_tuple_getitem _ _)))
  show wpAny _ _ (Builtin.Tuple.tupleItemsOf (.ref t) >>= _) _ _ s
  refine wpAny_bind (tupleItemsOf_ ht ?_)
  refine wpAny_bind (wpAny_typeOf hTs ?_)
  rw [if_pos (by decide)]
  refine wpAny_bind (sliceApplied_gen hs pl pu ?_)
  have hno : ¬ ((((sIx items.size 0 lo : Nat) : Int) == 0 && (1 : Int) == 1 && (sIx items.size items.size hi - sIx items.size 0 lo) == items.size) = true) := by
    intro q
    rw [Bool.and_eq_true, Bool.and_eq_true] at q
    have q1 : ((sIx items.size 0 lo : Nat) : Int) = 0 := eq_of_beq q.1.1
    have q2 : sIx items.size items.size hi - sIx items.size 0 lo = items.size := eq_of_beq q.2
    exact hw ⟨by omega, by omega⟩
  show wpAny _ _ (if (((sIx items.size 0 lo : Nat) : Int) == 0 && (1 : Int) == 1 && (sIx items.size items.size hi - sIx items.size 0 lo) == items.size) = true then _ else _) _ _ s
  rw [if_neg hno, pick_gen]
  first
    | exact wpAny_bind (m := Builtin.Tuple.tupleExact _) (wpAny_newObj_type (wpAny_pure ⟨_, rfl, wpAny_pure h⟩) htake)
    | exact wpAny_bind (m := Builtin.Tuple.tupleExact _) (wpAny_newObj_type (wpAny_bind (wpAny_pure (wpAny_pure ⟨_, rfl, wpAny_pure h⟩))) htake)
    | exact wpAny_bind (wpAny_bind (m := Builtin.Tuple.tupleExact _) (wpAny_newObj_type (wpAny_pure (wpAny_pure ⟨_, rfl, wpAny_pure h⟩)) htake))
    | exact wpAny_bind (wpAny_bind (m := Builtin.Tuple.tupleExact _) (wpAny_newObj_type (wpAny_pure ⟨_, rfl, wpAny_pure h⟩) htake))
end
end HT

namespace L2
open PySem PySem.Spec PyProof.Rows

/-! ### the parts of a slice -/
abbrev TO := St → Hp → (Option Int → Hp → Prop) → Prop
/-- a slice's part (left out, or an int) -/
def PO (X : Cx) (e : Option Expr) (t : TO) : Prop :=
  ∀ (pins : List (Addr × Obj)) (s : Shared) (σ : St) (H : Hp) (Q : Option Int → Hp → Prop), Inv X pins σ H s → t σ H Q →
    wpAny (model X.prog X.w) X.A (evalPart e X.env) (fun u s' => ∃ o H', Inv X pins σ H' s' ∧ IsPart u o ∧ Q o H') X.xe s
def tNoPart : TO := fun _ H Q => Q none H
def tPart (t : TE) : TO := fun σ H Q => t σ H fun x H1 => ∃ i, x = .int i ∧ Q (some i) H1

section
variable {X : Cx} {e : Expr} {te : TE} {lo hi : Option Expr} {tl th : TO} {pos p2 : Pos}

theorem po_none : PO X none tNoPart := by
  intro pins s σ H Q I h
  rw [evalPart_none]
  exact wpAny_pure ⟨none, H, I, .none, h⟩
theorem po_some (h : PE X e te) : PO X (some e) (tPart te) := by
  intro pins s σ H Q I hw
  rw [evalPart_some]
  refine thn (h pins s σ H _ I hw) fun u s1 ⟨x, H1, I1, r1, q1⟩ => ?_
  obtain ⟨i, rfl, q⟩ := q1
  obtain ⟨t, rfl⟩ := r1
  exact ⟨some i, H1, I1, .int i t, q⟩

/-- what a slice of a value is, by values: the slice object stands at sl -/
def SlR (X : Cx) (r : V → Option Int → Option Int → Hp → VK → Prop) : Prop :=
  ∀ (pins : List (Addr × Obj)) (s : Shared) (σ : St) (H : Hp) (x : V) (v vl vu : Value) (lo hi : Option Int) (sl : Addr) (Q : VK), Inv X pins σ H s → RelV x v → s.heap.IsSliceOf sl vl vu .none → IsPart vl lo → IsPart vu hi → r x lo hi H Q →
    ∃ T id, typeLookup (.type T) "__getitem__" = pure (some (.builtin id)) ∧ s.TypeIs v T ∧ wpAny (model X.prog X.w) X.A (getItem v (.ref sl)) (EP X pins σ Q) X.xe s
def tSl (r : V → Option Int → Option Int → Hp → VK → Prop) (te : TE) (tl th : TO) : TE := fun σ H Q => te σ H fun x H1 => tl σ H1 fun l H2 => th σ H2 fun u H3 => r x l u H3 Q
/-- a[lo:hi], any a -/
theorem pe_slice {r : V → Option Int → Option Int → Hp → VK → Prop} (hr : SlR X r) (he : PE X e te) (hl : PO X lo tl) (hu : PO X hi th) : PE X (.Subscript e (.Slice lo hi none p2) pos) (tSl r te tl th) := by
  intro pins s σ H Q I h
  refine Subscript_ (thn (he pins s σ H _ I h) fun v s1 ⟨x, H1, I1, r1, q1⟩ => ?_)
  refine wpAny_Slice (thn (hl pins s1 σ H1 _ I1 q1) fun vl s2 ⟨l, H2, I2, pl, q2⟩ => thn (hu pins s2 σ H2 _ I2 q2) fun vu s3 ⟨u, H3, I3, pu, q3⟩ => ?_)
  rw [evalPart_none]
  refine wpAny_pure ?_
  have I4 : Inv X pins σ H3 { s3 with heap := s3.heap.push { cls := .type "slice", data := .fields #[vl, vu, .none] } } := I3.kept (t' := s3.toks) fun b ob q => Heap.get?_push_of_some _ q
  obtain ⟨T, id, hT, ht, hg⟩ := hr pins { s3 with heap := s3.heap.push { cls := .type "slice", data := .fields #[vl, vu, .none] } } σ H3 x v vl vu l u s3.heap.objs.size Q I4 r1 (Heap.IsSliceOf.new ..) pl pu q3
  show wpAny (model X.prog X.w) X.A (subscriptTail e (.Slice lo hi none p2) v (.ref s3.heap.objs.size)) (EP X pins σ Q) X.xe { s3 with heap := s3.heap.push { cls := .type "slice", data := .fields #[vl, vu, .none] } }
  exact tail_any (ops := [.ref s3.heap.objs.size, v]) ht hT hg (by with_unfolding_all rfl)

/-- the items of xs[lo:hi] -/
def cutV (xs : List V) (lo hi : Option Int) : List V := (xs.drop (HT.sIx xs.length 0 lo)).take (HT.sIx xs.length xs.length hi - HT.sIx xs.length 0 lo)
theorem cutV_length (xs : List V) (lo hi : Option Int) : (cutV xs lo hi).length ≤ xs.length := by
  unfold cutV
  rw [List.length_take, List.length_drop]
  omega
/-- t[lo:hi], not the whole of it (the whole would be t itself) -/
def rSlT (K : PySem.W.Frag) : V → Option Int → Option Int → Hp → VK → Prop := fun x lo hi H Q => ∃ a xs, x = .ref a ∧ SqT K H a xs ∧
  ¬ (HT.sIx xs.length 0 lo = 0 ∧ HT.sIx xs.length xs.length hi = xs.length) ∧ ∀ p, H p = none → Q (.ref p) (upd H p (.tup (cutV xs lo hi)))
theorem sl_tup : SlR X (rSlT X.K) := by
  intro pins s σ H x v vl vu lo hi sl Q I rx hs pl pu h
  obtain ⟨a, xs, rfl, hx, hw, q⟩ := h
  cases rx
  obtain ⟨its, r, ht, hz⟩ := I.tuple hx
  have hlen : its.toArray.size = xs.length := by rw [List.size_toArray]; exact r.length.symm
  refine ⟨"tuple", _, PyProof.Rows.slot_tuple_getitem.lookup, ht.typeIs, ?_⟩
  refine HT.getItem_tuple_cut ht hs pl pu (by rw [hlen]; exact hw) ?_ (by rw [hlen]; exact hz)
  rw [hlen]
  refine ⟨.ref s.heap.objs.size, _, I.laid (t' := s.toks) (o := .tup (cutV xs lo hi)) (fun b ob q => Heap.get?_push_of_some _ q) (Nat.le_refl _) ?_, rfl, q _ (I.hok.fresh (Nat.le_refl _))⟩
  exact ⟨Nat.le_trans (cutV_length xs lo hi) hz, _, (r.drop (HT.sIx xs.length 0 lo)).take (HT.sIx xs.length xs.length hi - HT.sIx xs.length 0 lo), IsTup.new _ _⟩

/-! ### t < u, t + u -/
def rLtT (K : PySem.W.Frag) : R2 := fun x y H Q => ∃ a b ns ms, x = .ref a ∧ y = .ref b ∧ SqT K H a (ns.map V.int) ∧ SqT K H b (ms.map V.int) ∧ Q (.bl (HT.lexLt ns ms)) H
/-- t + u, t not empty: u empty gives t itself -/
def rCatT (K : PySem.W.Frag) : R2 := fun x y H Q => ∃ a b xs ys, x = .ref a ∧ y = .ref b ∧ SqT K H a xs ∧ SqT K H b ys ∧ xs ≠ [] ∧ xs.length + ys.length ≤ sizeLine ∧
  (ys = [] → Q (.ref a) H) ∧ (ys ≠ [] → ∀ p, H p = none → Q (.ref p) (upd H p (.tup (xs ++ ys))))
end
end L2

namespace L2
open PySem PySem.Spec PyProof.Rows

/-! ### places -/
/-- the place that an index of any sign means -/
def ixN (n : Nat) (i : Int) : Option Nat := if 0 ≤ i then (if i < n then some i.toNat else none) else if -(n : Int) ≤ i then some (i + n).toNat else none
def atI {α : Type} (xs : List α) (i : Int) : Option α := (ixN xs.length i).bind fun j => xs[j]?
theorem ixN_seq {n : Nat} {i : Int} {j : Nat} (h : ixN n i = some j) : seqIndex? i n = some j ∧ j < n ∧ -(n : Int) ≤ i ∧ i < n := by
  unfold ixN at h
  by_cases h0 : 0 ≤ i
  · rw [if_pos h0] at h
    by_cases h1 : i < n
    · rw [if_pos h1] at h
      have e : i.toNat = j := Option.some.inj h
      exact ⟨by rw [seqIndex_of h0 h1, e], by omega, by omega, h1⟩
    · rw [if_neg h1] at h; cases h
  · rw [if_neg h0] at h
    by_cases h1 : -(n : Int) ≤ i
    · rw [if_pos h1] at h
      have e : (i + n).toNat = j := Option.some.inj h
      exact ⟨by rw [seqIndex_neg (by omega) h1, e], by omega, h1, by omega⟩
    · rw [if_neg h1] at h; cases h
theorem atI_get {α : Type} {xs : List α} {i : Int} {v : α} (h : atI xs i = some v) : ∃ j, seqIndex? i xs.length = some j ∧ xs[j]? = some v ∧ j < xs.length ∧ -(xs.length : Int) ≤ i ∧ i < xs.length := by
  unfold atI at h
  cases e : ixN xs.length i with
  | none => rw [e] at h; cases h
  | some j =>
    rw [e] at h
    obtain ⟨h1, h2, h3, h4⟩ := ixN_seq e
    exact ⟨j, h1, h, h2, h3, h4⟩
theorem atI_nat {α : Type} {xs : List α} {j : Nat} {v : α} (h : xs[j]? = some v) : atI xs (j : Int) = some v := by
  have hj : j < xs.length := (List.getElem?_eq_some_iff.mp h).1
  have e : ixN xs.length (j : Int) = some j := by
    unfold ixN
    rw [if_pos (by omega), if_pos (by omega)]; simp
  unfold atI; rw [e]; exact h
/-! ### what may be subscripted -/
/-- what stands as an index of a plain subscript -/
def PlainIx (b : Expr) : Prop := ∀ o i, subscripted b false o i = operate [o, i] (getItem o i)
/-- a subscript by values -/
def IxR (X : Cx) (r : R2) : Prop :=
  ∀ (value slice : Expr) (pins : List (Addr × Obj)) (s : Shared) (σ : St) (H : Hp) (x y : V) (v u : Value) (Q : VK), Inv X pins σ H s → RelV x v → RelV y u → r x y H Q →
    subscripted slice false v u = operate [v, u] (getItem v u) → wpAny (model X.prog X.w) X.A (subscriptTail value slice v u) (EP X pins σ Q) X.xe s
/-- a call of a builtin's method by values: the receiver, the arguments -/
def MtR (X : Cx) (id : String) (r : V → List V → Hp → VK → Prop) : Prop :=
  ∀ (pins : List (Addr × Obj)) (s : Shared) (σ : St) (H : Hp) (x : V) (xs : List V) (v : Value) (us : List Value) (Q : VK), Inv X pins σ H s → RelV x v → Vals xs us → r x xs H Q →
    wpAny (model X.prog X.w) X.A (call (.builtin id) (v :: us)) (EP X pins σ Q) X.xe s
section
variable {X : Cx} {a b : Expr} {ta tb : TE} {pos : Pos}
/-- a[b] -/
theorem pe_ix {r : R2} (hr : IxR X r) (ha : PE X a ta) (hb : PE X b tb) (hs : PlainIx b) : PE X (.Subscript a b pos) (tOp r ta tb) := by
  intro pins s σ H Q I h
  exact Subscript_ (binT ha hb I h fun v u s2 x y H2 I2 rx ry q => hr a b pins s2 σ H2 x y v u Q I2 rx ry q (hs _ _))

def rIxL (K : PySem.W.Frag) : R2 := fun x y H Q => ∃ p xs i v, x = .ref p ∧ y = .int i ∧ SqL K H p xs ∧ atI xs i = some v ∧ Q v H
def rIxT (K : PySem.W.Frag) : R2 := fun x y H Q => ∃ p xs i v, x = .ref p ∧ y = .int i ∧ SqT K H p xs ∧ atI xs i = some v ∧ Q v H
def rIxS : R2 := fun x y H Q => ∃ z i c, x = .str z ∧ y = .int i ∧ z.length ≤ sizeLine ∧ atI z.cps.toList i = some c ∧ Q (.str ⟨#[c]⟩) H
theorem ix_list : IxR X (rIxL X.K) := by
  intro value slice pins s σ H x y v u Q I rx ry h hs
  obtain ⟨p, xs, i, z, rfl, rfl, hq, he, q⟩ := h
  cases rx
  obtain ⟨t, rfl⟩ := ry
  obtain ⟨its, r, pl, hz⟩ := I.list hq
  obtain ⟨j, h1, h2, h3, h4, h5⟩ := atI_get he
  obtain ⟨w, ew, rw'⟩ := r.get h2
  have hl := r.length
  have hn := line63
  have fin : EP X pins σ Q w s := ⟨z, H, I, rw', q⟩
  by_cases h0 : 0 ≤ i
  · have hj : i.toNat = j := by
      rw [seqIndex_of h0 h5] at h1
      exact Option.some.inj h1
    exact item_listR pl.isList h0 (by omega) (by rw [hj]; simpa using ew) fin hs
  · have hj : (i + (its.toArray.size : Int)).toNat = j := by
      rw [seqIndex_neg (by omega) h4] at h1
      rw [List.size_toArray, ← hl]
      exact Option.some.inj h1
    exact subscriptTail_builtinR (x := w) pl.isList.typeIs slot_list_getitem.lookup
      (wpAny_getItem_list_neg (Q := fun r s' => r = w ∧ EP X pins σ Q r s') pl.isList (by omega) (by rw [List.size_toArray] <;> omega) (by omega) (by rw [hj]; simpa using ew) ⟨rfl, fin⟩) hs
theorem ix_tup : IxR X (rIxT X.K) := by
  intro value slice pins s σ H x y v u Q I rx ry h hs
  obtain ⟨p, xs, i, z, rfl, rfl, hq, he, q⟩ := h
  cases rx
  obtain ⟨t, rfl⟩ := ry
  obtain ⟨its, r, pl, hz⟩ := I.tuple hq
  obtain ⟨j, h1, h2, h3, h4, h5⟩ := atI_get he
  obtain ⟨w, ew, rw'⟩ := r.get h2
  have hl := r.length
  have hn := line63
  have fin : EP X pins σ Q w s := ⟨z, H, I, rw', q⟩
  exact subscriptTail_builtinR (x := w) pl.typeIs slot_tuple_getitem.lookup
    (getItem_tuple (j := j) (Q := fun r s' => r = w ∧ EP X pins σ Q r s') pl (by omega) (by omega) (by rw [List.size_toArray, ← hl]; exact h1) (by simpa using ew) ⟨rfl, fin⟩) hs
theorem ix_str : IxR X rIxS := by
  intro value slice pins s σ H x y v u Q I rx ry h hs
  obtain ⟨z, i, c, rfl, rfl, hz, he, q⟩ := h
  obtain ⟨t, rfl⟩ := rx
  obtain ⟨t', rfl⟩ := ry
  obtain ⟨j, h1, h2, h3, h4, h5⟩ := atI_get he
  have hl : z.cps.toList.length = z.length := by simp [Str.length]
  rw [hl] at h1 h4 h5
  have hn := line63
  exact tail_any (typeIs_str s z t) slot_str_getitem.lookup (getItem_str (c := c) (by
    have e1 : decide (i < -(2 ^ 63 : Int)) = false := decide_eq_false (by omega)
    have e2 : decide (i ≥ 2 ^ 63) = false := decide_eq_false (by omega)
    rw [e1, e2, Bool.or_false]) (by rw [h1]; simpa using h2) ⟨.str ⟨#[c]⟩, H, I.tok _, ⟨_, rfl⟩, q⟩) hs
/-- list, tuple or str -/
def rIx (K : PySem.W.Frag) : R2 := fun x y H Q => rIxL K x y H Q ∨ rIxT K x y H Q ∨ rIxS x y H Q
/-! ### xs[i] = v, any sign -/
def rSetL : V → V → V → Hp → (Hp → Prop) → Prop := fun o i v H Q => ∃ p xs k j, o = .ref p ∧ i = .int k ∧ H p = some (.lst xs) ∧ ixN xs.length k = some j ∧ Q (upd H p (.lst (xs.set j v)))
/-! ### slices -/
theorem slice_bounds (lo hi : Option Int) (n : Nat) : (sliceBounds lo hi none n).1 = ((HT.sIx n 0 lo : Nat) : Int) ∧ (sliceBounds lo hi none n).2.1 = ((HT.sIx n n hi : Nat) : Int) ∧ (sliceBounds lo hi none n).2.2 = 1 := by
  refine ⟨?_, ?_, rfl⟩
  · cases lo with
    | none => simp [sliceBounds, HT.sIx]
    | some i =>
      simp only [sliceBounds, HT.sIx, Option.getD_none, show (1 : Int) > 0 by decide, if_true]
      by_cases h : i < 0
      · simp only [h, if_true] <;> omega
      · simp only [h, if_false] <;> omega
  · cases hi with
    | none => simp [sliceBounds, HT.sIx]
    | some i =>
      simp only [sliceBounds, HT.sIx, Option.getD_none, show (1 : Int) > 0 by decide, if_true]
      by_cases h : i < 0
      · simp only [h, if_true] <;> omega
      · simp only [h, if_false] <;> omega
theorem slicePick_cut (its : List Value) (lo hi : Option Int) : slicePick its.toArray lo hi none = ((its.drop (HT.sIx its.length 0 lo)).take (HT.sIx its.length its.length hi - HT.sIx its.length 0 lo)).toArray := by
  obtain ⟨h1, h2, h3⟩ := slice_bounds lo hi its.toArray.size
  unfold slicePick
  rw [h1, h2, h3]
  simp only [sliceRange_one, pick_run, List.size_toArray] <;> rfl
/-- xs[lo:hi] of a list: a new list -/
def rSlL (K : PySem.W.Frag) : V → Option Int → Option Int → Hp → VK → Prop := fun x lo hi H Q => ∃ a xs, x = .ref a ∧ SqL K H a xs ∧ ∀ p, H p = none → Q (.ref p) (upd H p (.lst (cutV xs lo hi)))
theorem sl_list : SlR X (rSlL X.K) := by
  intro pins s σ H x v vl vu lo hi sl Q I rx hs pl pu h
  obtain ⟨a, xs, rfl, hx, q⟩ := h
  cases rx
  obtain ⟨its, r, ht, hz⟩ := I.list hx
  have hlen := r.length
  refine ⟨"list", _, slot_list_getitem.lookup, ht.isList.typeIs, ?_⟩
  refine wpAny_getItem_list_slice ht.isList hs pl pu .none (by simp) ?_ (by rw [List.size_toArray] <;> omega)
  rw [slicePick_cut, ← hlen]
  refine ⟨.ref s.heap.objs.size, _, I.laid (t' := s.toks) (o := .lst (cutV xs lo hi)) (fun b ob q => Heap.get?_push_of_some _ q) (Nat.le_refl _) ?_, rfl, q _ (I.hok.fresh (Nat.le_refl _))⟩
  exact ⟨Nat.le_trans (cutV_length xs lo hi) hz, _, 0, (r.drop (HT.sIx xs.length 0 lo)).take (HT.sIx xs.length xs.length hi - HT.sIx xs.length 0 lo), Heap.get?_push_size _ rfl⟩

/-! ### in, not in: flat items -/
def flatV : V → Bool
  | .non => true
  | .bl _ => true
  | .int _ => true
  | .str _ => true
  | _ => false
/-- == of flat values -/
def eqV : V → V → Bool
  | .non, .non => true
  | .bl a, .bl b => a == b
  | .bl a, .int b => (if a then 1 else 0) == b
  | .int a, .bl b => a == (if b then 1 else 0)
  | .int a, .int b => a == b
  | .str a, .str b => a == b
  | _, _ => false
theorem eqAt_V {A : Around} {s : Shared} {y x : V} {u v : Value} (ry : RelV y u) (rx : RelV x v) (fy : flatV y = true) (fx : flatV x = true) : SeqAt.EqAt A s u v (eqV y x) := by
  cases y with
  | non =>
    cases ry
    cases x with
    | non => cases rx; exact SeqAt.EqAt.same _
    | bl b => cases rx; exact SeqAt.EqAt.none_bool b
    | int b => obtain ⟨t, rfl⟩ := rx; exact SeqAt.EqAt.none_int b t
    | str b => obtain ⟨t, rfl⟩ := rx; exact SeqAt.EqAt.none_str b t
    | _ => exact absurd (show false = true from fx) Bool.false_ne_true
  | bl a =>
    cases ry
    cases x with
    | non => cases rx; exact SeqAt.EqAt.bool_none a
    | bl b => cases rx; exact SeqAt.EqAt.bool_bool a b
    | int b => obtain ⟨t, rfl⟩ := rx; exact SeqAt.EqAt.bool_int a b t
    | str b => obtain ⟨t, rfl⟩ := rx; exact SeqAt.EqAt.bool_str a b t
    | _ => exact absurd (show false = true from fx) Bool.false_ne_true
  | int a =>
    obtain ⟨t', rfl⟩ := ry
    cases x with
    | non => cases rx; exact SeqAt.EqAt.int_none a t'
    | bl b => cases rx; exact SeqAt.EqAt.int_bool a t' b
    | int b => obtain ⟨t, rfl⟩ := rx; exact SeqAt.EqAt.int_int a t' b t
    | str b => obtain ⟨t, rfl⟩ := rx; exact SeqAt.EqAt.int_str a t' b t
    | _ => exact absurd (show false = true from fx) Bool.false_ne_true
  | str a =>
    obtain ⟨t', rfl⟩ := ry
    cases x with
    | non => cases rx; exact SeqAt.EqAt.str_none a t'
    | bl b => cases rx; exact SeqAt.EqAt.str_bool a t' b
    | int b => obtain ⟨t, rfl⟩ := rx; exact SeqAt.EqAt.str_int a t' b t
    | str b => obtain ⟨t, rfl⟩ := rx; exact SeqAt.EqAt.str_str a t' b t
    | _ => exact absurd (show false = true from fx) Bool.false_ne_true
  | _ => exact absurd (show false = true from fy) Bool.false_ne_true
/-- the items' answers, read off the values (a value's own answer does not lean on its token) -/
def eqU (x : V) (u : Value) : Bool := match u with
  | .none => eqV .non x
  | .bool b => eqV (.bl b) x
  | .int i _ => eqV (.int i) x
  | .str z _ => eqV (.str z) x
  | _ => false
theorem eqU_of {x y : V} {u : Value} (r : RelV y u) (f : flatV y = true) : eqU x u = eqV y x := by
  cases y with
  | non => cases r; rfl
  | bl b => cases r; rfl
  | int i => obtain ⟨t, rfl⟩ := r; rfl
  | str z => obtain ⟨t, rfl⟩ := r; rfl
  | _ => exact absurd (show false = true from f) Bool.false_ne_true
theorem any_eqU {x : V} : ∀ {xs : List V} {us : List Value}, Vals xs us → xs.all flatV = true → us.any (eqU x) = xs.any fun y => eqV y x
  | _, _, .nil, _ => rfl
  | y :: xs, u :: us, .cons r t, f => by
    rw [List.all_cons, Bool.and_eq_true] at f
    rw [List.any_cons, List.any_cons, eqU_of r f.1, any_eqU t f.2]
theorem mem_eqAt {A : Around} {s : Shared} {x : V} {v : Value} (rx : RelV x v) (fx : flatV x = true) : ∀ {xs : List V} {us : List Value}, Vals xs us → xs.all flatV = true → ∀ u ∈ us, SeqAt.EqAt A s u v (eqU x u)
  | _, _, .nil, _ => fun u hu => by cases hu
  | y :: xs, u :: us, .cons r t, f => fun u' hu => by
    rw [List.all_cons, Bool.and_eq_true] at f
    rcases List.mem_cons.mp hu with rfl | hu
    · rw [eqU_of r f.1]; exact eqAt_V r rx f.1 fx
    · exact mem_eqAt rx fx t f.2 u' hu
def inV (x : V) (xs : List V) : Bool := xs.any fun y => eqV y x
/-- x in a list or tuple of flat items -/
def rIn (K : PySem.W.Frag) (neg : Bool) : R2 := fun x y H Q => ∃ p xs, y = .ref p ∧ (SqL K H p xs ∨ SqT K H p xs) ∧ flatV x = true ∧ xs.all flatV = true ∧ Q (.bl (if neg then !inV x xs else inV x xs)) H
theorem op_in_seq : OpR X (compareOp .In) (rIn X.K false) := by
  intro pins s σ H x y v u Q I rx ry h
  obtain ⟨p, xs, rfl, hq, fx, fs, q⟩ := h
  cases ry
  rcases hq with hq | hq
  · obtain ⟨its, r, pl, hz⟩ := I.list hq
    refine SeqAt.in_listAt (eqU x) pl.isList (fun w hw => mem_eqAt rx fx r fs w (by simpa using hw)) ⟨.bl _, H, I, rfl, ?_⟩
    rw [show its.toArray.any (eqU x) = its.any (eqU x) by simp, any_eqU r fs]
    exact q
  · obtain ⟨its, r, pl, hz⟩ := I.tuple hq
    refine SeqAt.in_tupleAt (eqU x) pl (fun w hw => mem_eqAt rx fx r fs w (by simpa using hw)) ⟨.bl _, H, I, rfl, ?_⟩
    rw [show its.toArray.any (eqU x) = its.any (eqU x) by simp, any_eqU r fs]
    exact q
/-! ### len, list(x), tuple(x) of any list or tuple that is read -/
theorem call_len_seq : CallR X (.builtin "len") (fun xs H Q => ∃ p ys, xs = [.ref p] ∧ (SqL X.K H p ys ∨ SqT X.K H p ys) ∧ Q (.int ys.length) H) := by
  intro pins s σ H xs us Q I r h
  obtain ⟨p, ys, rfl, hq, q⟩ := h
  obtain ⟨u, rfl, rx⟩ := vals1 r
  cases rx
  have hn := line63
  rcases hq with hq | hq
  · obtain ⟨its, r', pl, hz⟩ := I.list hq
    have hlen := r'.length
    exact Calls.call_len_list pl.isList (by simp only [List.size_toArray] <;> omega) ⟨.int ys.length, H, I.tok _, ⟨s.toks + 1, by rw [List.size_toArray, hlen]⟩, q⟩
  · obtain ⟨its, r', pl, hz⟩ := I.tuple hq
    have hlen := r'.length
    exact len_tuple pl (by simp only [List.size_toArray] <;> omega) ⟨.int ys.length, H, I.tok _, ⟨s.toks + 1, by rw [List.size_toArray, hlen]⟩, q⟩
theorem call_len_str : CallR X (.builtin "len") (fun xs H Q => ∃ z, xs = [.str z] ∧ z.length ≤ sizeLine ∧ Q (.int z.length) H) := by
  intro pins s σ H xs us Q I r h
  obtain ⟨z, rfl, hz, q⟩ := h
  obtain ⟨u, rfl, t, rfl⟩ := vals1 r
  have hn := line63
  exact len_str (by omega) ⟨.int z.length, H, I.tok _, ⟨_, rfl⟩, q⟩
theorem call_list_of : CallR X (.type "list") (fun xs H Q => ∃ p ys, xs = [.ref p] ∧ (SqL X.K H p ys ∨ SqT X.K H p ys) ∧ ∀ l, H l = none → Q (.ref l) (upd H l (.lst ys))) := by
  intro pins s σ H xs us Q I r h
  obtain ⟨p, ys, rfl, hq, q⟩ := h
  obtain ⟨u, rfl, rx⟩ := vals1 r
  cases rx
  have fin : ∀ (its : List Value), Vals ys its → ys.length ≤ sizeLine → ∀ (h' : Heap) (c' : Nat), (∀ b o', s.heap.get? b = some o' → h'.get? b = some o') →
      h'.get? s.heap.objs.size = some { cls := .type "list", dict := none, data := .seq its.toArray c', slots := #[] } → EP X pins σ Q (.ref s.heap.objs.size) { s with heap := h' } := fun its r' hz h' c' kp e =>
    ⟨.ref s.heap.objs.size, _, I.laid (t' := s.toks) kp (Nat.le_refl _) (show ObjOk X.prog X.w _ h' _ (.lst ys) from ⟨hz, its, c', r', e⟩), rfl, q _ (I.hok.fresh (Nat.le_refl _))⟩
  rcases hq with hq | hq
  · obtain ⟨its, r', pl, hz⟩ := I.list hq
    have hlen := r'.length
    obtain ⟨o, ho, hc, n, hd⟩ := pl.isList
    exact call_list_seq p (.inl rfl) ho hc hd (fun h' c' kp e => fin its r' hz h' c' kp e) (by simp only [List.size_toArray] <;> omega)
  · obtain ⟨its, r', pl, hz⟩ := I.tuple hq
    have hlen := r'.length
    obtain ⟨o, ho, hc, n, hd⟩ := pl
    exact call_list_seq p (.inr rfl) ho hc hd (fun h' c' kp e => fin its r' hz h' c' kp e) (by simp only [List.size_toArray] <;> omega)
theorem call_tuple_of : CallR X (.type "tuple") (fun xs H Q => ∃ p ys, xs = [.ref p] ∧ ((SqL X.K H p ys ∧ ∀ l, H l = none → Q (.ref l) (upd H l (.tup ys))) ∨ (SqT X.K H p ys ∧ Q (.ref p) H))) := by
  intro pins s σ H xs us Q I r h
  obtain ⟨p, ys, rfl, h⟩ := h
  obtain ⟨u, rfl, rx⟩ := vals1 r
  cases rx
  rcases h with ⟨hq, q⟩ | ⟨hq, q⟩
  · obtain ⟨its, r', pl, hz⟩ := I.list hq
    have hlen := r'.length
    refine call_tuple_list pl.isList (fun h' kp => ?_) (by simp only [List.size_toArray] <;> omega)
    have I1 : Inv X pins σ H { s with heap := h' } := I.kept (t' := s.toks) kp
    have I2 : Inv X pins σ (upd H h'.objs.size (.tup ys)) { s with heap := h'.push { cls := .type "tuple", data := .seq its.toArray } } :=
      I1.laid (t' := s.toks) (fun b o e => Heap.get?_push_of_some _ e) (Nat.le_refl _) (show ObjOk X.prog X.w _ _ _ (.tup ys) from ⟨hz, its, r', IsTup.new _ _⟩)
    exact ⟨.ref h'.objs.size, _, I2, rfl, q _ (I1.hok.fresh (Nat.le_refl _))⟩
  · obtain ⟨its, r', pl, hz⟩ := I.tuple hq
    exact call_tuple_same pl ⟨.ref p, H, I, rfl, q⟩

/-! ### the call of a builtin's method: o.m(..) -/
/-- the value is of that builtin type -/
def tyV (K : PySem.W.Frag) (T : String) (x : V) (H : Hp) : Prop := match x with
  | .str _ => T = "str"
  | .int _ => T = "int"
  | .ref p => (T = "list" ∧ ∃ xs, SqL K H p xs) ∨ (T = "tuple" ∧ ∃ o, K.lookup p = some o ∧ o.cls = .type "tuple" ∧ o.dict = none) ∨
      (T = "dict" ∧ ((∃ kvs, H p = some (.dK kvs)) ∨ ∃ kvs, H p = some (.dT kvs))) ∨ (T = "set" ∧ ∃ S n, H p = some (.set S n))
  | _ => False
theorem tyV_is {pins : List (Addr × Obj)} {σ : St} {H : Hp} {s : Shared} {T : String} {x : V} {v : Value} (I : Inv X pins σ H s) (r : RelV x v) (ty : tyV X.K T x H) :
    s.TypeIs v T ∧ ∀ a, v = .ref a → ∃ ob, s.heap.get? a = some ob ∧ ob.dict = none := by
  cases x with
  | str z =>
    obtain ⟨t, rfl⟩ := r
    cases (show T = "str" from ty)
    exact ⟨typeIs_str s z t, fun _ e => nomatch e⟩
  | int i =>
    obtain ⟨t, rfl⟩ := r
    cases (show T = "int" from ty)
    exact ⟨typeIs_int s i t, fun _ e => nomatch e⟩
  | ref p =>
    cases r
    rcases ty with ⟨rfl, xs, hq⟩ | ⟨rfl, o, hk, hc, hd⟩ | ⟨rfl, hk⟩ | ⟨rfl, S, n, hk⟩
    · obtain ⟨its, _, pl, _⟩ := I.list hq
      refine ⟨pl.isList.typeIs, fun a e => ?_⟩
      cases e
      obtain ⟨o, n, e, c, hd, _⟩ := pl
      exact ⟨o, e, hd⟩
    · refine ⟨⟨o, I.kIn p o hk, hc⟩, fun a e => ?_⟩
      cases e
      exact ⟨o, I.kIn _ o hk, hd⟩
    · have z : ∃ o, s.heap.get? p = some o ∧ o.ExactDict := by
        rcases hk with ⟨kvs, hk⟩ | ⟨kvs, hk⟩
        · obtain ⟨_, _, _, _, o, _, _, e, ex, _⟩ := I.hok p _ hk
          exact ⟨o, e, ex⟩
        · obtain ⟨_, _, _, _, o, _, _, e, ex, _⟩ := I.hok p _ hk
          exact ⟨o, e, ex⟩
      obtain ⟨o, e, ex⟩ := z
      refine ⟨⟨o, e, ex.1⟩, fun a e2 => ?_⟩
      cases e2
      exact ⟨o, e, ex.2.1⟩
    · obtain ⟨o, _, _, _, e, ex, _⟩ := I.hok p _ hk
      refine ⟨⟨o, e, ex.1⟩, fun a e2 => ?_⟩
      cases e2
      exact ⟨o, e, ex.2.1⟩
  | _ => exact False.elim ty
def tBM0 (K : PySem.W.Frag) (T : String) (r : V → List V → Hp → VK → Prop) (to : TE) : TE := fun σ H Q => to σ H fun x H1 => tyV K T x H1 ∧ r x [] H1 Q
def tBM (K : PySem.W.Frag) (T : String) (r : V → List V → Hp → VK → Prop) (to : TE) (t : TA) : TE := fun σ H Q => to σ H fun x H1 => tyV K T x H1 ∧ t σ H1 fun xs H2 => r x xs H2 Q
variable {o e : Expr} {es : List Expr} {to : TE} {t : TA} {name : Str} {apos cpos : Pos} {T id : String} {r : V → List V → Hp → VK → Prop}
theorem pe_bm0 (pa : PlainAttrs T) (slot : Slot T name id) (hty : typeOf (.builtin id) = pure (.type "method_descriptor")) (hm : MtR X id r) (ho : PE X o to)
    (hbase : attributeBase o name X.env (eval o X.env) = eval o X.env := by rfl) (hline : (apos.endLine == cpos.line) = true := by rfl) : PE X (.Call (.Attribute o name apos) [] [] cpos) (tBM0 X.K T r to) := by
  intro pins s σ H Q I h
  refine wpAny_Call_method0_late hbase hline (thn (ho pins s σ H _ I h) fun v s1 ⟨x, H1, I1, r1, ty, q1⟩ => ?_)
  obtain ⟨h1, h2⟩ := tyV_is I1 r1 ty
  exact ⟨T, id, pa, slot, hty, h1, h2, Calls.callWith_builtin rfl (PySem.evalArgs_none (hm pins s1 σ H1 x [] v [] Q I1 r1 .nil q1))⟩
theorem pe_bm (pa : PlainAttrs T) (slot : Slot T name id) (hty : typeOf (.builtin id) = pure (.type "method_descriptor")) (hm : MtR X id r) (ho : PE X o to) (ha : PA X (e :: es) t)
    (hbase : attributeBase o name X.env (eval o X.env) = eval o X.env := by rfl)
    (hfew : ((backTo cpos (starEach (e :: es) X.env)).all (fun x => !x.1) && (backToKw cpos (keywordEach [] X.env)).all (fun x => x.1.isSome)
      && decide ((e :: es).length + ([] : List Keyword).length + (if ([] : List Keyword).isEmpty then 0 else 1) < 30)) = true := by rfl)
    (hline : (apos.endLine == cpos.line) = true := by rfl) (hs : starEach (e :: es) X.env = (false, eval e X.env) :: starEach es X.env := by rfl) (hplain : (backTo cpos (starEach es X.env)).any (·.1) = false := by rfl) :
    PE X (.Call (.Attribute o name apos) (e :: es) [] cpos) (tBM X.K T r to t) := by
  intro pins s σ H Q I h
  refine wpAny_Call_method_late hbase hfew hline rfl (thn (ho pins s σ H _ I h) fun v s1 ⟨x, H1, I1, r1, ty, q1⟩ => ?_)
  obtain ⟨h1, h2⟩ := tyV_is I1 r1 ty
  refine ⟨T, id, pa, slot, hty, h1, h2, ?_⟩
  have hA := ha cpos pins s1 σ H1 _ I1 q1
  rw [hs] at hA ⊢
  refine Calls.callWith_builtin (by show (false || (backTo cpos (starEach es X.env)).any (·.1)) = false; rw [hplain] <;> rfl) (Calls.evalArgs_plain ?_)
  exact thn hA fun us s2 ⟨vs, H2, I2, r2, q2⟩ => hm pins s2 σ H2 x vs v us Q I2 r1 r2 q2
/- xs.append(e), list.index on a module's tuple .. are MtR facts of 06m -/
end
end L2

namespace L2
open PySem PySem.Spec PyProof.Rows

def MtM (X : Cx) (id : String) (r : V → List V → Hp → VK → Prop) : Prop :=
  ∀ (pins : List (Addr × Obj)) (s : Shared) (σ : St) (H : Hp) (x : V) (xs : List V) (v : Value) (us : List Value) (Q : VK), Inv X pins σ H s → RelV x v → Vals xs us → r x xs H Q →
    wpAny (model X.prog X.w) X.A (call (.builtin id) (v :: us)) (EP X pins σ Q) X.xe s

/-! ### lists of values -/
theorem Vals.one : ∀ {x : V} {us : List Value}, Vals [x] us → ∃ u, us = [u] ∧ RelV x u
  | _, _, .cons r .nil => ⟨_, rfl, r⟩
theorem Vals.zero : ∀ {us : List Value}, Vals [] us → us = []
  | _, .nil => rfl
theorem Vals.dropLast {xs : List V} {us : List Value} (h : Vals xs us) : Vals xs.dropLast us.dropLast := by
  induction h with
  | nil => exact .nil
  | cons r t ih =>
    cases t with
    | nil => exact .nil
    | cons q t' => exact .cons r ih
theorem Vals.eraseIdx : ∀ {xs : List V} {us : List Value} (i : Nat), Vals xs us → Vals (xs.eraseIdx i) (us.eraseIdx i)
  | _, _, _, .nil => .nil
  | _, _, 0, .cons _ t => t
  | _, _, i + 1, .cons r t => .cons r (Vals.eraseIdx i t)
theorem erase_last {α : Type} (l : List α) : l.eraseIdx (l.length - 1) = l.dropLast := by
  induction l with
  | nil => rfl
  | cons a r ih =>
    cases r with
    | nil => rfl
    | cons b r =>
      have e : (a :: b :: r).length - 1 = ((b :: r).length - 1) + 1 := by
        have h1 : (a :: b :: r).length = r.length + 2 := rfl
        have h2 : (b :: r).length = r.length + 1 := rfl
        omega
      rw [e, List.eraseIdx_cons_succ, ih]
      all_goals rfl
section
variable {X : Cx} {pins : List (Addr × Obj)} {σ : St} {H : Hp} {s : Shared} {l b : Addr} {xs ys zs : List V}

/-! ### the two steps: a tracked list is rewritten, a new list is laid -/
theorem Inv.lset {its its' : List Value} {n : Nat} {f : Array Value → Array Value} {t' : Nat} (I : Inv X pins σ H s) (hH : H l = some (.lst xs))
    (e : s.heap.get? l = some { cls := .type "list", data := .seq its.toArray n }) (hf : f its.toArray = its'.toArray) (hv : Vals ys its') (hz : ys.length ≤ sizeLine) :
    Inv X pins σ (upd H l (.lst ys)) { s with heap := s.heap.update l (Obj.mapSeq f), toks := t' } := by
  have q := PySem.IsL.update e f
  rw [hf] at q
  refine I.write (x := l) (e := l) (by rw [hH]; exact trivial) (.inl rfl) (fun b' u hb hu => (Heap.get?_update_other s.heap (Obj.mapSeq f) (Ne.symm hb)).trans hu) ⟨_, q⟩ ?_
  exact ⟨hz, its', _, hv, q⟩
theorem Inv.lnew {its : List Value} {t' : Nat} (I : Inv X pins σ H s) (hv : Vals ys its) (hz : ys.length ≤ sizeLine) :
    Inv X pins σ (upd H s.heap.objs.size (.lst ys)) { s with heap := s.heap.push { cls := .type "list", data := .seq its.toArray }, toks := t' } :=
  I.laid (fun _ _ q => Heap.get?_push_of_some _ q) (Nat.le_refl _) ⟨hz, its, 0, hv, Heap.get?_push_size _ rfl⟩
theorem Inv.fresh (I : Inv X pins σ H s) : H s.heap.objs.size = none := I.hok.fresh (Nat.le_refl _)
theorem Inv.lstM (I : Inv X pins σ H s) (hH : H l = some (.lst xs)) : xs.length ≤ sizeLine ∧ ∃ (its : List Value) (n : Nat), Vals xs its ∧ xs.length = its.length ∧ s.heap.get? l = some { cls := .type "list", data := .seq its.toArray n } := by
  obtain ⟨z, its, n, r, e⟩ := I.hok l _ hH
  exact ⟨z, its, n, r, r.length, e⟩

theorem notLongL {n : Nat} (h : n ≤ sizeLine) : Builtin.List.listTooLong n = false := by
  unfold Builtin.List.listTooLong
  exact decide_eq_false (by omega)
end

section
variable {X : Cx}

/-! ### methods -/
def rAppend : V → List V → Hp → VK → Prop := fun x vs H Q => ∃ l xs y, x = .ref l ∧ vs = [y] ∧ H l = some (.lst xs) ∧ xs.length < sizeLine ∧ Q .non (upd H l (.lst (xs ++ [y])))
theorem mt_append : MtM X "list.append" rAppend := by
  intro pins s σ H x vs v us Q I rx rv h
  obtain ⟨l, xs, y, rfl, rfl, hH, hz, q⟩ := h
  cases rx
  obtain ⟨u, rfl, ru⟩ := rv.one
  obtain ⟨z, its, n, r, hl, e⟩ := I.lstM hH
  refine call_meets F.slot_list_append ⟨_, e, rfl⟩ F.entry_list_append (F.args_list_append_2 _ _) (PySem.list_append l its.toArray n u (by rw [List.size_toArray]; omega)) ⟨e, ?_⟩
  refine ⟨.non, _, I.lset (its' := its ++ [u]) hH e (by simp) (r.append (.cons ru .nil)) ?_, rfl, q⟩
  rw [List.length_append, List.length_singleton]
  omega

def rExtend : V → List V → Hp → VK → Prop := fun x vs H Q => ∃ l b xs zs, x = .ref l ∧ vs = [.ref b] ∧ H l = some (.lst xs) ∧ H b = some (.lst zs) ∧ xs.length + zs.length ≤ sizeLine ∧ Q .non (upd H l (.lst (xs ++ zs)))
theorem mt_extend : MtM X "list.extend" rExtend := by
  intro pins s σ H x vs v us Q I rx rv h
  obtain ⟨l, b, xs, zs, rfl, rfl, hH, hB, hz, q⟩ := h
  cases rx
  obtain ⟨u, rfl, ru⟩ := rv.one
  cases ru
  obtain ⟨z, its, n, r, hl, e⟩ := I.lstM hH
  obtain ⟨z2, its2, n2, r2, hl2, e2⟩ := I.lstM hB
  have hsz : its.toArray.size + its2.toArray.size ≤ sizeLine := by rw [List.size_toArray, List.size_toArray]; omega
  have hlong : ¬ (!its.toArray.isEmpty && Builtin.List.listTooLong (its.toArray.size + its2.toArray.size)) = true := by
    rw [notLongL hsz, Bool.and_false]
    exact Bool.false_ne_true
  refine call_meets F.slot_list_extend ⟨_, e, rfl⟩ F.entry_list_extend (F.args_list_extend_2 _ _)
    (AutoSeq1.list_extend_list_list_0 l its.toArray n b its2.toArray n2 hlong (by rw [List.size_toArray]; omega) (by omega)) ⟨e, e2, ?_⟩
  refine ⟨.non, _, I.lset (its' := its ++ its2) hH e (by simp) (r.append r2) ?_, rfl, q⟩
  rw [List.length_append]
  omega

def rPop : V → List V → Hp → VK → Prop := fun x vs H Q => ∃ l xs y, x = .ref l ∧ vs = [] ∧ H l = some (.lst xs) ∧ xs[xs.length - 1]? = some y ∧ Q y (upd H l (.lst xs.dropLast))
theorem mt_pop : MtM X "list.pop" rPop := by
  intro pins s σ H x vs v us Q I rx rv h
  obtain ⟨l, xs, y, rfl, rfl, hH, hy, q⟩ := h
  cases rx
  have hus := rv.zero
  subst hus
  obtain ⟨z, its, n, r, hl, e⟩ := I.lstM hH
  obtain ⟨u, hu, ru⟩ := r.get hy
  have hy' : its.toArray[its.toArray.size - 1]? = some u := by
    show its.toArray[its.length - 1]? = some u
    rw [← Array.getElem?_toList, ← hl]
    exact hu
  refine call_meets F.slot_list_pop ⟨_, e, rfl⟩ F.entry_list_pop (F.args_list_pop_1 _) (MeetsSeq.list_pop_last l its.toArray n u hy' (by rw [List.size_toArray]; omega)) ⟨e, ?_⟩
  refine ⟨y, _, I.lset (its' := its.dropLast) hH e ?_ r.dropLast ?_, ru, q⟩
  · show its.toArray.eraseIdxIfInBounds (its.toArray.size - 1) = its.dropLast.toArray
    rw [List.size_toArray, List.eraseIdxIfInBounds_toArray, erase_last]
  · rw [List.length_dropLast]
    omega

def rPopAt : V → List V → Hp → VK → Prop := fun x vs H Q => ∃ l xs i k y, x = .ref l ∧ vs = [.int i] ∧ H l = some (.lst xs) ∧ -(2 ^ 63) ≤ i ∧ i < 2 ^ 63 ∧ seqIndex? i xs.length = some k ∧ xs[k]? = some y ∧ Q y (upd H l (.lst (xs.eraseIdx k)))
def rReverse : V → List V → Hp → VK → Prop := fun x vs H Q => ∃ l xs, x = .ref l ∧ vs = [] ∧ H l = some (.lst xs) ∧ Q .non (upd H l (.lst xs.reverse))
def rClear : V → List V → Hp → VK → Prop := fun x vs H Q => ∃ l xs, x = .ref l ∧ vs = [] ∧ H l = some (.lst xs) ∧ Q .non (upd H l (.lst []))
/-! ### list + list, list += list, list * int -/
def rCat : R2 := fun x y H Q => ∃ l b xs zs, x = .ref l ∧ y = .ref b ∧ H l = some (.lst xs) ∧ H b = some (.lst zs) ∧ xs.length + zs.length ≤ sizeLine ∧ ∀ p, H p = none → Q (.ref p) (upd H p (.lst (xs ++ zs)))
theorem op_cat : OpR X (binaryOp .Add) rCat := by
  intro pins s σ H x y v u Q I rx ry h
  obtain ⟨l, b, xs, zs, rfl, rfl, hH, hB, hz, q⟩ := h
  cases rx
  cases ry
  obtain ⟨z, its, n, r, hl, e⟩ := I.lstM hH
  obtain ⟨z2, its2, n2, r2, hl2, e2⟩ := I.lstM hB
  refine PySem.P.add_list e e2 ?_ (by rw [List.size_toArray, List.size_toArray]; omega)
  have ea : its.toArray ++ its2.toArray = (its ++ its2).toArray := by simp
  rw [ea]
  exact ⟨.ref _, _, I.lnew (t' := s.toks) (r.append r2) (by rw [List.length_append]; omega), rfl, q _ I.fresh⟩
/-- a list times an int (a negative one is nothing) -/
def rRep : R2 := fun x y H Q => ∃ l k xs, x = .ref l ∧ y = .int k ∧ H l = some (.lst xs) ∧ -(2 ^ 63) ≤ k ∧ k < 2 ^ 63 ∧ xs.length * k.toNat ≤ sizeLine ∧
  ∀ p, H p = none → Q (.ref p) (upd H p (.lst (List.replicate k.toNat xs).flatten))
/-! ### del xs[i] -/
end

/-! ### xs[a:b] = ys -/
section
variable {prog : Program} {w : World} {A : Around} {E : Value → Shared → Prop} {s : Shared}
end

section
variable {X : Cx}
end
end L2

namespace L2
open PySem PySem.Spec PyProof.Rows

/-! ### lists of pairs as tables -/
section
variable {κ : Type} [DecidableEq κ]
def valV (kvs : List (κ × V)) (k : κ) : Option V := (kvs.find? fun kv => decide (kv.1 = k)).map (·.2)
/-- in its place, or at the end -/
def putK (kvs : List (κ × V)) (k : κ) (v : V) : List (κ × V) :=
  if (kvs.any fun kv => decide (kv.1 = k)) = true then kvs.map (fun kv => if kv.1 = k then (kv.1, v) else kv) else kvs ++ [(k, v)]
def dropK (kvs : List (κ × V)) (k : κ) : List (κ × V) := kvs.filter fun kv => decide (kv.1 ≠ k)

theorem valV_pos {p : κ × V} {r : List (κ × V)} {k : κ} (e : p.1 = k) : valV (p :: r) k = some p.2 := by simp [valV, List.find?_cons, e]
theorem valV_neg {p : κ × V} {r : List (κ × V)} {k : κ} (e : ¬ p.1 = k) : valV (p :: r) k = valV r k := by simp [valV, List.find?_cons, e]
theorem valV_any (k : κ) : ∀ kvs : List (κ × V), (kvs.any fun kv => decide (kv.1 = k)) = (valV kvs k).isSome
  | [] => rfl
  | p :: r => by
    rw [List.any_cons]
    by_cases e : p.1 = k
    · simp only [valV_pos e, decide_eq_true e, Bool.true_or, Option.isSome_some]
    · rw [valV_neg e, decide_eq_false e, Bool.false_or]; exact valV_any k r
theorem length_putK (kvs : List (κ × V)) (k : κ) (v : V) : (putK kvs k v).length ≤ kvs.length + 1 := by
  unfold putK
  split
  · rw [List.length_map]; omega
  · rw [List.length_append, List.length_cons, List.length_nil]; omega
theorem putK_new {kvs : List (κ × V)} {k : κ} (v : V) (h : valV kvs k = none) : putK kvs k v = kvs ++ [(k, v)] := by
  unfold putK
  rw [valV_any, h]
  exact if_neg (by decide)

theorem RelO.isSome_eq {o : Option V} {u : Option Value} (r : RelO o u) : o.isSome = u.isSome := by
  cases o with
  | none => cases u with
    | none => rfl
    | some _ => exact (show False from r).elim
  | some _ => cases u with
    | none => exact (show False from r).elim
    | some _ => rfl
theorem RelO.getD {o : Option V} {u : Option Value} {d : V} {d' : Value} (r : RelO o u) (rd : RelV d d') : RelV (o.getD d) (u.getD d') := by
  cases o with
  | none => cases u with
    | none => exact rd
    | some _ => exact (show False from r).elim
  | some _ => cases u with
    | none => exact (show False from r).elim
    | some _ => exact r

/-- raw tables of the same keys -/
theorem KV.val {kvs : List (κ × V)} {vs : List (κ × Value)} (r : KV kvs vs) (k : κ) : RelO (valV kvs k) (valueAt vs k) := by
  unfold KV at r
  induction r with
  | nil => exact True.intro
  | @cons p q ps qs h t ih =>
    obtain ⟨h1, h2⟩ := h
    by_cases e : p.1 = k
    · have e' : q.1 = k := h1.symm.trans e
      have b : valueAt (q :: qs) k = some q.2 := by simp [valueAt, List.find?_cons, e']
      rw [valV_pos e, b]; exact h2
    · have e' : ¬ q.1 = k := fun z => e (h1.trans z)
      have b : valueAt (q :: qs) k = valueAt qs k := by simp [valueAt, List.find?_cons, e']
      rw [valV_neg e, b]; exact ih
theorem KV.any {kvs : List (κ × V)} {vs : List (κ × Value)} (r : KV kvs vs) (k : κ) : (kvs.any fun kv => decide (kv.1 = k)) = vs.any fun kv => decide (kv.1 = k) := by
  unfold KV at r
  induction r with
  | nil => rfl
  | cons h t ih => rw [List.any_cons, List.any_cons, ih, h.1]
theorem KV.repl {kvs : List (κ × V)} {vs : List (κ × Value)} (r : KV kvs vs) (k : κ) {y : V} {u : Value} (ry : RelV y u) :
    KV (kvs.map fun kv => if kv.1 = k then (kv.1, y) else kv) (vs.map fun kv => if kv.1 = k then (kv.1, u) else kv) := by
  unfold KV at r ⊢
  induction r with
  | nil => exact .nil
  | @cons p q ps qs h t ih =>
    rw [List.map_cons, List.map_cons]
    refine .cons ?_ ih
    obtain ⟨h1, h2⟩ := h
    by_cases e : p.1 = k
    · rw [if_pos e, if_pos (h1.symm.trans e)]; exact ⟨h1, ry⟩
    · rw [if_neg e, if_neg (fun z => e (h1.trans z))]; exact ⟨h1, h2⟩
theorem KV.put {kvs : List (κ × V)} {vs : List (κ × Value)} (r : KV kvs vs) (k : κ) {y : V} {u : Value} (ry : RelV y u) : KV (putK kvs k y) (stored vs k u) := by
  unfold putK stored
  rw [r.any k]
  by_cases e : (vs.any fun kv => decide (kv.1 = k)) = true
  · rw [if_pos e, if_pos e]; exact r.repl k ry
  · rw [if_neg e, if_neg e]; exact Paired.snoc r ⟨rfl, ry⟩
theorem KV.drop {kvs : List (κ × V)} {vs : List (κ × Value)} (r : KV kvs vs) (k : κ) : KV (dropK kvs k) (without vs k) := by
  unfold KV at r ⊢
  unfold dropK without
  induction r with
  | nil => exact .nil
  | @cons p q ps qs h t ih =>
    obtain ⟨h1, h2⟩ := h
    rw [List.filter_cons, List.filter_cons]
    by_cases e : p.1 = k
    · have a : ¬ decide (p.1 ≠ k) = true := by simp [e]
      have b : ¬ decide (q.1 ≠ k) = true := by simp [h1.symm.trans e]
      rw [if_neg a, if_neg b]; exact ih
    · have e' : ¬ q.1 = k := fun z => e (h1.trans z)
      have a : decide (p.1 ≠ k) = true := by simp [e]
      have b : decide (q.1 ≠ k) = true := by simp [e']
      rw [if_pos a, if_pos b]; exact .cons ⟨h1, h2⟩ ih
theorem KV.length {kvs : List (κ × V)} {vs : List (κ × Value)} (r : KV kvs vs) : kvs.length = vs.length := Paired.length r
end


/-! ### a tracked dict, its keys ints and texts or tuples of these -/
theorem kV_is {P : Program} {w : World} {k : Key} {u : Value} (r : RelV (kV k) u) : (mixKind P w).is k u = true := by
  cases k with
  | inl i => obtain ⟨t, e⟩ := (show ∃ t, u = Value.int i t from r); subst e; exact mixKind_int P w i t
  | inr x => obtain ⟨t, e⟩ := (show ∃ t, u = Value.str x t from r); subst e; exact mixKind_str P w x t
theorem items_are {P : Program} {w : World} : ∀ {ks : List Key} {us : List Value}, Vals (ks.map kV) us → ItemsAre (mixKind P w) ks us
  | [], _, r => by rw [List.map_nil] at r; cases r; exact .nil
  | k :: ks, _, r => by
    rw [List.map_cons] at r
    cases r with
    | cons h t => exact .cons (kV_is h) (items_are t)

/-- raw entries of a dict with tuple keys -/
abbrev KT (H : Hp) : List (List Key × V) → List (List Key × Addr × Value) → Prop := Paired fun p q => p.1 = q.1 ∧ H q.2.1 = some (.tup (p.1.map kV)) ∧ RelV p.2 q.2.2
theorem KT.val {H : Hp} {kvs : List (List Key × V)} {xs : List (List Key × Addr × Value)} (r : KT H kvs xs) (k : List Key) : RelO (valV kvs k) ((atKey xs k).map (·.2)) := by
  induction r with
  | nil => exact True.intro
  | @cons p q ps qs h t ih =>
    obtain ⟨h1, _, h2⟩ := h
    by_cases e : p.1 = k
    · have e' : q.1 = k := h1.symm.trans e
      have b : atKey (q :: qs) k = some q.2 := by simp [atKey, List.find?_cons, e']
      rw [valV_pos e, b]; exact h2
    · have e' : ¬ q.1 = k := fun z => e (h1.trans z)
      have b : atKey (q :: qs) k = atKey qs k := by simp [atKey, List.find?_cons, e']
      rw [valV_neg e, b]; exact ih
theorem KT.repl {H : Hp} {kvs : List (List Key × V)} {xs : List (List Key × Addr × Value)} (r : KT H kvs xs) (k : List Key) {y : V} {u : Value} (ry : RelV y u) :
    KT H (kvs.map fun kv => if kv.1 = k then (kv.1, y) else kv) (xs.map (putAt k u)) := by
  induction r with
  | nil => exact .nil
  | @cons p q ps qs h t ih =>
    rw [List.map_cons, List.map_cons]
    refine .cons ?_ ih
    obtain ⟨h1, h2, h3⟩ := h
    unfold putAt
    by_cases e : p.1 = k
    · rw [if_pos e, if_pos (h1.symm.trans e)]; exact ⟨h1, h2, ry⟩
    · rw [if_neg e, if_neg (fun z => e (h1.trans z))]; exact ⟨h1, h2, h3⟩
theorem KT.put {H : Hp} {kvs : List (List Key × V)} {xs : List (List Key × Addr × Value)} (r : KT H kvs xs) (k : List Key) {b : Addr} {y : V} {u : Value} (hb : H b = some (.tup (k.map kV))) (ry : RelV y u) :
    KT H (putK kvs k y) (storedH xs k b u) := by
  have e : (kvs.any fun kv => decide (kv.1 = k)) = (atKey xs k).isSome := by
    rw [valV_any, (r.val k).isSome_eq, Option.isSome_map]
  unfold putK storedH
  rw [e]
  by_cases q : (atKey xs k).isSome = true
  · rw [if_pos q, if_pos q]; exact r.repl k ry
  · rw [if_neg q, if_neg q]; exact Paired.snoc r ⟨rfl, hb, ry⟩
theorem KT.keeps {H H' : Hp} {kvs : List (List Key × V)} {xs : List (List Key × Addr × Value)} (r : KT H kvs xs) (ht : ∀ b ys, H b = some (.tup ys) → H' b = some (.tup ys)) : KT H' kvs xs :=
  Paired.mapP r fun _ _ z => ⟨z.1, ht _ _ z.2.1, z.2.2⟩

section
variable {P : Program} {w : World} {H : Hp} {h : Heap} {a : Addr}
theorem rd_of {u : HO} (ok : HOk P w H h) (e : Rd H a u) : ObjOk P w H h a u := e.ok ok
theorem dk_rd {kvs : List (Key × V)} (ok : HOk P w H h) (e : Rd H a (.dK kvs)) : kvs.length ≤ sizeLine ∧ (a == sysModules) = false ∧ ∃ vs, KV kvs vs ∧ h.DictOf (mixKind P w) a vs :=
  show ObjOk P w H h a (.dK kvs) from rd_of ok e
theorem dk_of {kvs : List (Key × V)} (ok : HOk P w H h) (e : H a = some (.dK kvs)) : kvs.length ≤ sizeLine ∧ (a == sysModules) = false ∧ ∃ vs, KV kvs vs ∧ h.DictOf (mixKind P w) a vs := dk_rd ok (.inl e)
/-- a tracked tuple of ints and texts is a key -/
theorem key_of {ks : List Key} (ok : HOk P w H h) (e : H a = some (.tup (ks.map kV))) : (tupleKind (mixKind P w)).is h ks a := by
  obtain ⟨_, its, r, o, h1, h2, n, h3⟩ := (show ObjOk P w H h a (.tup (ks.map kV)) from ok a _ e)
  exact ⟨o, its.toArray, n, h1, h2, h3, by simpa using items_are r⟩
theorem dt_rd {kvs : List (List Key × V)} (ok : HOk P w H h) (e : Rd H a (.dT kvs)) : kvs.length ≤ sizeLine ∧ (a == sysModules) = false ∧
    ∃ xs, KT H kvs xs ∧ h.DictOfH (tupleKind (mixKind P w)) a xs := by
  obtain ⟨z, y, xs, r, o, es, ep, h1, h2, h3, h4, h5⟩ := (show ObjOk P w H h a (.dT kvs) from rd_of ok e)
  refine ⟨z, y, xs, r, o, es, ep, h1, h2, h3, h4, fun x hx => ?_, h5⟩
  have all : ∀ {l : List (List Key × V)} {m : List (List Key × Addr × Value)}, KT H l m → ∀ x ∈ m, (tupleKind (mixKind P w)).is h x.1 x.2.1 := by
    intro l m q
    induction q with
    | nil => intro x hx; exact nomatch hx
    | @cons p q ps qs hq t ih =>
      intro x hx
      rcases List.mem_cons.mp hx with e | hx
      · subst e
        exact key_of ok (by rw [← hq.1]; exact hq.2.1)
      · exact ih x hx
  exact all r x hx
theorem dt_of {kvs : List (List Key × V)} (ok : HOk P w H h) (e : H a = some (.dT kvs)) : kvs.length ≤ sizeLine ∧ (a == sysModules) = false ∧
    ∃ xs, KT H kvs xs ∧ h.DictOfH (tupleKind (mixKind P w)) a xs := dt_rd ok (.inl e)
end

/-- what the dict at a holds at the key y -/
def DGet (H : Hp) (a : Addr) (y : V) (r : Option V) : Prop :=
  (∃ kvs k, Rd H a (.dK kvs) ∧ y = kV k ∧ r = valV kvs k) ∨ ∃ kvs k b, Rd H a (.dT kvs) ∧ y = .ref b ∧ H b = some (.tup (k.map kV)) ∧ r = valV kvs k
/-- the heap behind a[y] = v -/
def DPut (H : Hp) (a : Addr) (y v : V) (H' : Hp) : Prop :=
  (∃ kvs k, H a = some (.dK kvs) ∧ y = kV k ∧ kvs.length < sizeLine ∧ H' = upd H a (.dK (putK kvs k v))) ∨
  ∃ kvs k b, H a = some (.dT kvs) ∧ y = .ref b ∧ H b = some (.tup (k.map kV)) ∧ kvs.length < sizeLine ∧ H' = upd H a (.dT (putK kvs k v))
theorem DGet.k {H : Hp} {a : Addr} {kvs : List (Key × V)} {k : Key} (e : H a = some (.dK kvs)) : DGet H a (kV k) (valV kvs k) := .inl ⟨kvs, k, .inl e, rfl, rfl⟩
theorem DPut.k {H : Hp} {a : Addr} {kvs : List (Key × V)} {k : Key} {v : V} (e : H a = some (.dK kvs)) (hl : kvs.length < sizeLine) : DPut H a (kV k) v (upd H a (.dK (putK kvs k v))) := .inl ⟨kvs, k, e, rfl, hl, rfl⟩
section
variable {X : Cx} {pins : List (Addr × Obj)} {σ : St} {H : Hp} {s : Shared} {a : Addr} {y v : V} {u r : Value} {o : Option V} {A : Around} {E : Value → Shared → Prop}

theorem Inv.big (I : Inv X pins σ H s) : sysModules < s.heap.objs.size := by
  have h : mainGlobals < s.heap.objs.size := (I.mod.glob.keeps I.bk).lt
  exact Nat.lt_trans (by decide) h

/-- d[y], there -/
theorem d_getItem {Q : Value → Shared → Prop} (hu : A.units + 1 < cLine) (I : Inv X pins σ H s) (g : DGet H a y (some v)) (ry : RelV y u) (h : ∀ w' s', Inv X pins σ H s' → RelV v w' → Q w' s') :
    wpAny (model X.prog X.w) A (getItem (.ref a) u) Q E s := by
  rcases g with ⟨kvs, k, e, ey, l⟩ | ⟨kvs, k, b, e, ey, eb, l⟩
  · subst ey
    obtain ⟨z, hd, vs, rel, dd⟩ := dk_rd I.hok e
    obtain ⟨w', hw, rw'⟩ := RelO.some_of (v := v) (o := valueAt vs k) (by rw [l]; exact rel.val k)
    exact wpAny_getItem_of (kV_is ry) dd.mapOf hw (h w' _ (I.tok _) rw')
  · subst ey
    cases (show u = Value.ref b from ry)
    obtain ⟨z, hd, xs, rel, dd⟩ := dt_rd I.hok e
    obtain ⟨w', hw, rw'⟩ := RelO.some_of (v := v) (o := (atKey xs k).map (·.2)) (by rw [l]; exact rel.val k)
    obtain ⟨p, hp, hp2⟩ := Option.map_eq_some_iff.mp hw
    refine wpAny_getItem_heap (tupleKind_room_in1 hu) (key_of I.hok eb) dd hp ?_
    rw [hp2]
    exact h w' _ (I.tok _) rw'
theorem d_notIn {Q : Value → Shared → Prop} (hu : A.units + 1 < cLine) (I : Inv X pins σ H s) (g : DGet H a y o) (ry : RelV y u) (h : ∀ s', Inv X pins σ H s' → Q (.bool (!o.isSome)) s') :
    wpAny (model X.prog X.w) A (compareOp .NotIn u (.ref a)) Q E s := by
  rcases g with ⟨kvs, k, e, ey, l⟩ | ⟨kvs, k, b, e, ey, eb, l⟩
  · subst ey
    obtain ⟨z, hd, vs, rel, dd⟩ := dk_rd I.hok e
    refine wpAny_notIn_of (kV_is ry) hd dd.mapOf ?_
    rw [← (rel.val k).isSome_eq, ← l]
    exact h _ (I.tok _)
  · subst ey
    cases (show u = Value.ref b from ry)
    obtain ⟨z, hd, xs, rel, dd⟩ := dt_rd I.hok e
    refine wpAny_notIn_heap (tupleKind_room_in1 hu) (key_of I.hok eb) hd dd ?_
    have q := (rel.val k).isSome_eq
    rw [Option.isSome_map] at q
    rw [← q, ← l]
    exact h _ (I.tok _)
/-- a dict's object is replaced -/
theorem d_write {h' : Heap} {t' : Nat} {ob : HO} (I : Inv X pins σ H s) (mu : Mut (H a)) (hs : Heap.SameBut a s.heap h') (he : ∃ q, h'.get? a = some q) (new : ObjOk X.prog X.w (upd H a ob) h' a ob) :
    Inv X pins σ (upd H a ob) { s with heap := h', toks := t' } :=
  I.write (x := a) (e := a) mu (.inl rfl) (fun b q hb z => (hs.2 b hb).trans z) he new
theorem dk_new {P : Program} {w : World} {H' : Hp} {h' : Heap} {kvs : List (Key × V)} {vs : List (Key × Value)} (z : kvs.length ≤ sizeLine) (hd : (a == sysModules) = false) (rel : KV kvs vs) (dd : h'.DictOf (mixKind P w) a vs) :
    ObjOk P w H' h' a (.dK kvs) := ⟨z, hd, vs, rel, dd⟩
/-- d[y] = v -/
theorem d_setItem {H' : Hp} {Q : Unit → Shared → Prop} (hu : A.units + 1 < cLine) (I : Inv X pins σ H s) (g : DPut H a y v H') (ry : RelV y u) (rv : RelV v r) (h : ∀ s', Inv X pins σ H' s' → Q () s') :
    wpAny (model X.prog X.w) A (setItem (.ref a) u r) Q E s := by
  rcases g with ⟨kvs, k, e, ey, l, eH⟩ | ⟨kvs, k, b, e, ey, eb, l, eH⟩
  · subst ey eH
    obtain ⟨z, hd, vs, rel, dd⟩ := dk_of I.hok e
    have hz : vs.length ≤ sizeLine := by rw [← rel.length]; exact z
    have hl : (putK kvs k v).length ≤ sizeLine := by have := length_putK kvs k v; omega
    refine wpAny_setItem_pairs (hsz := hz) (kV_is ry) dd fun h' dd' hs => h _ ?_
    have he : ∃ q, h'.get? a = some q := let ⟨q, _, _, hq, _⟩ := dd'; ⟨q, hq⟩
    exact d_write I (by rw [e]; exact True.intro) hs he (dk_new hl hd (rel.put k rv) dd')
  · subst ey eH
    cases (show u = Value.ref b from ry)
    obtain ⟨z, hd, xs, rel, dd⟩ := dt_of I.hok e
    have hz : xs.length ≤ sizeLine := by rw [← Paired.length rel]; exact z
    have hl : (putK kvs k v).length ≤ sizeLine := by have := length_putK kvs k v; omega
    refine wpAny_setItem_heap (hsz := hz) (tupleKind_room_in1 hu) (key_of I.hok eb) dd fun h' dd' hs => h _ ?_
    obtain ⟨q, es, ep, hq, h2, h3, h4, _, h5⟩ := dd'
    refine d_write I (by rw [e]; exact True.intro) hs ⟨q, hq⟩ ⟨hl, hd, _, (rel.put k eb rv).keeps fun c ys ec => ?_, q, es, ep, hq, h2, h3, h4, h5⟩
    rw [upd_ne (ne_of ec e (fun z => nomatch z))]
    exact ec
end

section
variable {X : Cx} {pins : List (Addr × Obj)} {σ : St} {H : Hp} {s : Shared} {a : Addr} {kvs : List (Key × V)} {k : Key} {u : Value} {A : Around} {E : Value → Shared → Prop}
/-- len(d) -/
theorem d_len {Q : Value → Shared → Prop} (I : Inv X pins σ H s) (e : Rd H a (.dK kvs)) (h : ∀ t s', Inv X pins σ H s' → Q (.int kvs.length t) s') : wpAny (model X.prog X.w) A (call (.builtin "len") [.ref a]) Q E s := by
  obtain ⟨z, hd, vs, rel, dd⟩ := dk_rd I.hok e
  refine call_len_dict hd dd (by rw [← rel.length]; rw [sizeLine_eq] at z; omega) ?_
  rw [← rel.length]
  exact h _ _ (I.tok _)
end


/-! ### readings and rules -/
/-- the element of a subscription, not a slice -/
def NoSl (i : Expr) : Prop := ∀ ov iv, subscripted i false ov iv = operate [ov, iv] (getItem ov iv)
theorem subD_of {prog : Program} {w : World} {A : Around} {E : Value → Shared → Prop} {s : Shared} {env : Env} {value slice : Expr} {pos : Pos} {T id : String} {Q : Value → Shared → Prop}
    (hl : typeLookup (.type T) "__getitem__" = pure (some (.builtin id))) (hs : NoSl slice)
    (h : wpAny (model prog w) A (eval value env) (fun o s₁ => wpAny (model prog w) A (eval slice env) (fun i s₂ => s₂.TypeIs o T ∧ wpAny (model prog w) A (getItem o i) Q E s₂) E s₁) E s) :
    wpAny (model prog w) A (eval (.Subscript value slice pos) env) Q E s := by
  refine Subscript_ (wpAny_mono h (fun o s₁ h₁ => wpAny_mono h₁ (fun i s₂ h₂ => ?_) fun _ _ x => x) fun _ _ x => x)
  obtain ⟨hT, h₂⟩ := h₂
  unfold subscriptTail
  refine wpAny_bind ?_
  rw [getitemInPython_of_ne hT.not_modules]
  refine wpAny_bind (wpAny_specialOf hT hl ?_)
  have fin : wpAny (model prog w) A (subscripted slice false o i) (fun r s₃ => wpAny (model prog w) A (letTemporaryGo value o r >>= fun _ => pure r) Q E s₃) E s₂ := by
    rw [hs o i]
    exact wpAny_operating (wpAny_mono h₂ (fun r s₃ h₃ => wpAny_bind (wpAny_letTemporaryGo (wpAny_pure h₃))) fun _ _ x => x)
  first
    | exact wpAny_pure (wpAny_bind fin)
    | exact wpAny_bind (wpAny_pure (wpAny_bind fin))
    | exact wpAny_bind fin

theorem dict_typeIs {X : Cx} {pins : List (Addr × Obj)} {σ : St} {H : Hp} {s : Shared} {a : Addr} {y : V} {o : Option V} (I : Inv X pins σ H s) (g : DGet H a y o) : s.TypeIs (.ref a) "dict" := by
  rcases g with ⟨kvs, k, e, _, _⟩ | ⟨kvs, k, b, e, _, _, _⟩
  · obtain ⟨_, _, vs, _, dd⟩ := dk_rd I.hok e
    exact dd.typeIs
  · obtain ⟨_, _, xs, _, dd⟩ := dt_rd I.hok e
    exact dd.typeIs
/-- d[y] -/
def tDGet (td ty : TE) : TE := fun σ H Q => td σ H fun x H1 => ty σ H1 fun y H2 => ∃ a v, x = .ref a ∧ DGet H2 a y (some v) ∧ Q v H2
/-- y in d, y not in d -/
def tDIn (ty td : TE) : TE := fun σ H Q => ty σ H fun y H1 => td σ H1 fun x H2 => ∃ a o, x = .ref a ∧ DGet H2 a y o ∧ Q (.bl o.isSome) H2
def tDNotIn (ty td : TE) : TE := fun σ H Q => ty σ H fun y H1 => td σ H1 fun x H2 => ∃ a o, x = .ref a ∧ DGet H2 a y o ∧ Q (.bl (!o.isSome)) H2
/-- d[y] = v -/
def sDPut (td ty tv : TE) : TS := fun D σ H => tv σ H fun v H1 => td σ H1 fun x H2 => ty σ H2 fun y H3 => ∃ a H4, x = .ref a ∧ DPut H3 a y v H4 ∧ D.nx σ H4
/-- d[y] op= v -/
def sDAug (td ty tv : TE) (rd : V → V → Hp → VK → Prop) : TS := fun D σ H => td σ H fun x H1 => ty σ H1 fun y H2 => ∃ a v, x = .ref a ∧ DGet H2 a y (some v) ∧
  tv σ H2 fun y2 H3 => rd v y2 H3 fun z H4 => ∃ H5, DPut H4 a y z H5 ∧ D.nx σ H5
/-- del d[y] -/
def sDDel (td ty : TE) : TS := fun D σ H => td σ H fun x H1 => ty σ H1 fun y H2 => ∃ a kvs k, x = .ref a ∧ H2 a = some (.dK kvs) ∧ y = kV k ∧ (valV kvs k).isSome = true ∧ D.nx σ (upd H2 a (.dK (dropK kvs k)))

section
variable {X : Cx} {o i e value : Expr} {pos pos' tpos : Pos} {td ty tv : TE}
theorem pe_dget (hu : X.A.units + 1 < cLine) (ho : PE X o td) (hi : PE X i ty) (hs : NoSl i) : PE X (.Subscript o i pos) (tDGet td ty) := by
  intro pins s σ H Q I h
  refine subD_of PySem.F.slot_dict_getitem.lookup hs (thn (ho pins s σ H _ I h) fun u s1 ⟨x, H1, I1, rx, q1⟩ => thn (hi pins s1 σ H1 _ I1 q1) fun iv s2 ⟨y, H2, I2, ry, a, v, ex, g, q2⟩ => ?_)
  subst ex
  obtain rfl : u = Value.ref a := rx
  exact ⟨dict_typeIs I2 g, d_getItem hu I2 g ry fun w' s3 I3 rw' => ⟨v, H2, I3, rw', q2⟩⟩
theorem pc_dnotin (hu : X.A.units + 1 < cLine) (hi : PE X i ty) (ho : PE X o td) : PC X .NotIn i o (tDNotIn ty td) := by
  intro pins s σ H Q I h
  refine thn (hi pins s σ H _ I h) fun iv s1 ⟨y, H1, I1, ry, q1⟩ => thn (ho pins s1 σ H1 _ I1 q1) fun u s2 ⟨x, H2, I2, rx, a, ov, ex, g, q2⟩ => ?_
  subst ex
  obtain rfl : u = Value.ref a := rx
  exact d_notIn hu I2 g ry fun s3 I3 => ⟨.bl (!ov.isSome), H2, I3, rfl, q2⟩
theorem ps_dput (hu : X.A.units + 1 < cLine) (ho : PE X o td) (hi : PE X i ty) (hv : PE X value tv) (hs : swapsWith value (some (.Subscript o i pos')) pos.line X.env = pure false) :
    PS X (.Assign [.Subscript o i pos'] value pos) (sDPut td ty tv) := by
  intro pins s σ H D I h
  refine wpAny_Assign_Subscript (thn (hv pins s σ H _ I h) fun r s1 ⟨v, H1, I1, rv, q1⟩ => thn (ho pins s1 σ H1 _ I1 q1) fun u s2 ⟨x, H2, I2, rx, q2⟩ => thn (hi pins s2 σ H2 _ I2 q2) fun iv s3 ⟨y, H3, I3, ry, a, H4, ex, g, q3⟩ => ?_) hs
  subst ex
  obtain rfl : u = Value.ref a := rx
  exact d_setItem hu I3 g ry rv fun s4 I4 => ⟨σ, H4, I4, q3⟩
end


/-! ### displays -/
theorem dk_empty {P : Program} {w : World} {H : Hp} (h : Heap) (hb : sysModules < h.objs.size) : ObjOk P w H (h.push { cls := .type "dict", data := .dict #[] }) h.objs.size (.dK []) :=
  ⟨Nat.zero_le _, beq_eq_false_iff_ne.mpr (Ne.symm (Nat.ne_of_lt hb)), [], .nil, Heap.DictOf.new h⟩
/-- {}, to be a dict of the kind that is wanted -/
def tDNewK : TE := fun _ H Q => ∀ p, H p = none → Q (.ref p) (upd H p (.dK []))
def tDNewT : TE := fun _ H Q => ∀ p, H p = none → Q (.ref p) (upd H p (.dT []))
section
variable {X : Cx} {pos : Pos}
end

/-- the pairs of a display, from the left -/
def tPairs : List (TE × TE) → St → Hp → (List (V × V) → Hp → Prop) → Prop
  | [], _, H, Q => Q [] H
  | (tk, tv) :: r, σ, H, Q => tk σ H fun x H1 => tv σ H1 fun y H2 => tPairs r σ H2 fun ps H3 => Q ((x, y) :: ps) H3
abbrev VV : List (V × V) → List (Value × Value) → Prop := Paired fun p q => RelV p.1 q.1 ∧ RelV p.2 q.2
def PPs (X : Cx) (pos : Pos) (keys : List (Option Expr)) (values : List Expr) (trs : List (TE × TE)) : Prop :=
  ∀ (pins : List (Addr × Obj)) (s : Shared) (σ : St) (H : Hp) (Q : List (V × V) → Hp → Prop), Inv X pins σ H s → tPairs trs σ H Q →
    wpAny (model X.prog X.w) X.A (evalPairs (pairTrees keys values X.env pos)) (fun vs s' => ∃ ps H', Inv X pins σ H' s' ∧ VV ps vs ∧ Q ps H') X.xe s
theorem pps_nil {X : Cx} {pos : Pos} : PPs X pos [] [] [] := fun pins s σ H Q I h => pairTrees_nil_walk ⟨[], H, I, .nil, h⟩
theorem pps_cons {X : Cx} {pos : Pos} {k v : Expr} {ks : List (Option Expr)} {vs : List Expr} {tk tv : TE} {trs : List (TE × TE)} (hk : PE X k tk) (hv : PE X v tv) (hr : PPs X pos ks vs trs) :
    PPs X pos (some k :: ks) (v :: vs) ((tk, tv) :: trs) := fun pins s σ H Q I h =>
  pairTrees_cons_walk (thn (hk pins s σ H _ I h) fun u s1 ⟨x, H1, I1, rx, q1⟩ => thn (hv pins s1 σ H1 _ I1 q1) fun w2 s2 ⟨y, H2, I2, ry, q2⟩ =>
    thn (hr pins s2 σ H2 _ I2 q2) fun ws s3 ⟨ps, H3, I3, rel, q3⟩ => ⟨(x, y) :: ps, H3, I3, .cons ⟨rx, ry⟩ rel, q3⟩)

def mergeK (kvs more : List (Key × V)) : List (Key × V) := more.foldl (fun acc kv => putK acc kv.1 kv.2) kvs
theorem KV.merge : ∀ {more : List (Key × V)} {rs : List (Key × Value)} {kvs : List (Key × V)} {vs : List (Key × Value)}, KV more rs → KV kvs vs → KV (mergeK kvs more) (merged vs rs) := by
  intro more rs kvs vs r
  unfold KV at r
  induction r generalizing kvs vs with
  | nil => intro q; exact q
  | @cons p q ps qs h t ih =>
    intro r0
    have e : KV (putK kvs p.1 p.2) (stored vs q.1 q.2) := by
      have := r0.put p.1 h.2
      rw [← h.1]; exact this
    exact ih e
theorem length_mergeK : ∀ (more kvs : List (Key × V)), (mergeK kvs more).length ≤ kvs.length + more.length
  | [], kvs => by show kvs.length ≤ kvs.length + 0; omega
  | p :: r, kvs => by
    have h1 := length_mergeK r (putK kvs p.1 p.2)
    have h2 := length_putK kvs p.1 p.2
    show (mergeK (putK kvs p.1 p.2) r).length ≤ _
    rw [List.length_cons]; omega
theorem carries_of {P : Program} {w : World} : ∀ {kvs : List (Key × V)} {ws : List (Value × Value)}, VV (kvs.map fun kv => (kV kv.1, kv.2)) ws → ∃ rs, Carries (mixKind P w) ws rs ∧ KV kvs rs
  | [], _, r => by rw [List.map_nil] at r; cases r; exact ⟨[], True.intro, .nil⟩
  | p :: kvs, _, r => by
    rw [List.map_cons] at r
    cases r with
    | @cons a b as bs h t =>
      obtain ⟨rs, c, q⟩ := carries_of (P := P) (w := w) t
      obtain ⟨b1, b2⟩ := b
      exact ⟨(p.1, b2) :: rs, ⟨kV_is h.1, rfl, c⟩, .cons ⟨rfl, h.2⟩ q⟩
/-- {k: v, ..} with keys ints and texts; the new dict stands empty while the pairs are made -/
def tDisp (trs : List (TE × TE)) : TE := fun σ H Q => ∀ p, H p = none → tPairs trs σ (upd H p (.dK [])) fun ps H2 => H2 p = some (.dK []) ∧ ∃ kvs : List (Key × V), ps = kvs.map (fun kv => (kV kv.1, kv.2)) ∧ kvs.length ≤ 15 ∧ Q (.ref p) (upd H2 p (.dK (mergeK [] kvs)))
theorem pe_disp {X : Cx} {pos : Pos} {keys : List (Option Expr)} {values : List Expr} {trs : List (TE × TE)} (h : PPs X pos keys values trs) (hall : keys.all (·.isSome) = true) (hl : keys.length = values.length) (h0 : keys ≠ [])
    (h15 : keys.length ≤ 15) : PE X (.Dict keys values pos) (tDisp trs) := by
  intro pins s σ H Q I q
  have hn := I.hok.fresh (Nat.le_refl s.heap.objs.size)
  have I1 := I.laid (a := s.heap.objs.size) (o := .dK []) (h' := s.heap.push { cls := .type "dict", data := .dict #[] }) (t' := s.toks) (fun _ _ q => Heap.get?_push_of_some _ q) (Nat.le_refl _) (dk_empty s.heap I.big)
  refine wpAny_Dict_walk (knd := mixKind X.prog X.w) hall hl h0 h15 (thn (h pins _ σ _ _ I1 (q _ hn)) fun ws s2 ⟨ps, H2, I2, rel, e, kvs, ep, lk, q2⟩ => ?_)
  subst ep
  obtain ⟨rs, c, rk⟩ := carries_of (P := X.prog) (w := X.w) rel
  obtain ⟨z, hd, vs0, r0, dd⟩ := dk_of I2.hok e
  cases r0
  refine ⟨rs, c, dd, fun h' dd' hs => ⟨.ref s.heap.objs.size, _, ?_, rfl, q2⟩⟩
  have hz : (mergeK [] kvs).length ≤ sizeLine := by
    have h1 := length_mergeK kvs []
    rw [List.length_nil] at h1
    rw [sizeLine_eq]; omega
  have he : ∃ q, h'.get? s.heap.objs.size = some q := let ⟨q, _, _, hq, _⟩ := dd'; ⟨q, hq⟩
  exact d_write I2 (by rw [e]; exact True.intro) hs he (dk_new hz hd (rk.merge .nil) dd')


/-! ### methods -/
/-- a method call o.m(e) of a built-in, with one argument: what must be seen of the text -/
structure M1 (X : Cx) (o : Expr) (m : Str) (apos : Pos) (e : Expr) (cpos : Pos) : Prop where
  base : attributeBase o m X.env (eval o X.env) = eval o X.env
  few : ((backTo cpos (starEach [e] X.env)).all (fun x => !x.1) && (backToKw cpos (keywordEach [] X.env)).all (fun x => x.1.isSome)
    && decide (([e] : List Expr).length + ([] : List Keyword).length + (if ([] : List Keyword).isEmpty then 0 else 1) < 30)) = true
  line : (apos.endLine == cpos.line) = true
  trees : backTo cpos (starEach [e] X.env) = [(false, eval e X.env)]
structure M2 (X : Cx) (o : Expr) (m : Str) (apos : Pos) (e f : Expr) (cpos : Pos) : Prop where
  base : attributeBase o m X.env (eval o X.env) = eval o X.env
  few : ((backTo cpos (starEach [e, f] X.env)).all (fun x => !x.1) && (backToKw cpos (keywordEach [] X.env)).all (fun x => x.1.isSome)
    && decide (([e, f] : List Expr).length + ([] : List Keyword).length + (if ([] : List Keyword).isEmpty then 0 else 1) < 30)) = true
  line : (apos.endLine == cpos.line) = true
  trees : backTo cpos (starEach [e, f] X.env) = [(false, eval e X.env), (false, eval f X.env)]

/-- a is a dict, whatever its keys -/
def IsD (H : Hp) (a : Addr) : Prop := (∃ kvs, Rd H a (.dK kvs)) ∨ ∃ kvs, Rd H a (.dT kvs)
section
variable {X : Cx} {pins : List (Addr × Obj)} {σ : St} {H : Hp} {s : Shared} {a : Addr} {y d : V} {u r : Value} {o : Option V} {A : Around} {E : Value → Shared → Prop}
end

def tDGet1 (td ty : TE) : TE := fun σ H Q => td σ H fun x H1 => ∃ a, x = .ref a ∧ IsD H1 a ∧ ty σ H1 fun y H2 => ∃ o, DGet H2 a y o ∧ Q (o.getD .non) H2
def tDGet2 (td ty tx : TE) : TE := fun σ H Q => td σ H fun x H1 => ∃ a, x = .ref a ∧ IsD H1 a ∧ ty σ H1 fun y H2 => tx σ H2 fun z H3 => ∃ o, DGet H3 a y o ∧ Q (o.getD z) H3
/-- d.pop(k): there; d.pop(k, x): there or not -/
def tDPop1 (td ty : TE) : TE := fun σ H Q => td σ H fun x H1 => ∃ a, x = .ref a ∧ IsD H1 a ∧ ty σ H1 fun y H2 => ∃ kvs k v, H2 a = some (.dK kvs) ∧ y = kV k ∧ valV kvs k = some v ∧ Q v (upd H2 a (.dK (dropK kvs k)))
def tDPop2 (td ty tx : TE) : TE := fun σ H Q => td σ H fun x H1 => ∃ a, x = .ref a ∧ IsD H1 a ∧ ty σ H1 fun y H2 => tx σ H2 fun z H3 => ∃ kvs k, H3 a = some (.dK kvs) ∧ y = kV k ∧
  (∀ v, valV kvs k = some v → Q v (upd H3 a (.dK (dropK kvs k)))) ∧ (valV kvs k = none → Q z H3)
section
variable {X : Cx} {o e f : Expr} {apos cpos : Pos} {td ty tx : TE}
end

/-! ### dict(d): a copy -/
section
variable {X : Cx} {pins : List (Addr × Obj)} {σ : St} {H : Hp} {s : Shared} {a : Addr} {kvs : List (Key × V)} {A : Around} {E : Value → Shared → Prop}
end


section
variable {X : Cx} {pins : List (Addr × Obj)} {σ : St} {H : Hp} {s : Shared} {a : Addr} {y : V} {u : Value} {A : Around} {E : Value → Shared → Prop}
end
end L2

namespace Att
open PySem PySem.W PySem.Calls PyProof.Rows

/-! ### the script -/
theorem ints_of_wellAll {P : Params} {h : Heap} : ∀ (ns : List Int) (vs : List Value), WellAll P h vs (ns.map WData.int) → IntsAre vs ns := by
  intro ns
  induction ns with
  | nil =>
    intro vs w
    rw [List.map_nil] at w
    cases w
    exact .nil
  | cons n ns ih =>
    intro vs w
    rw [List.map_cons] at w
    cases w with
    | cons a b =>
      cases a
      exact .cons _ _ (ih _ b)

theorem script_of {l : OpenLaw} {n : Nat} (hn : l.most = some n) {P : Params} {h : Heap} {args : List WData} {vals : List Value}
    (hpre : l.row.toRowW.claim.pre args = true) (hwl : WellAll P h vals args) :
    ∃ a vs ns, vals = [Value.ref a] ∧ args = [WData.list (ns.map WData.int)] ∧ h.get? a = some { cls := .type "list", data := .seq vs.toArray } ∧ IntsAre vs ns ∧ ns.length ≤ n := by
  have hsh : WShape.hasAll [] args [.list .int] = true := (pre_splitW hpre).1
  have hc : l.pre.holds [] { args := args } = true := (pre_splitW hpre).2
  obtain ⟨d, r, rfl, h1, h2⟩ := hasAllW_cons hsh
  obtain rfl := hasAllW_nil h2
  obtain ⟨xs, rfl, h3⟩ := hasW_list h1
  obtain ⟨ns, rfl⟩ := items_int h3
  have hlen : ns.length ≤ n := by
    unfold OpenLaw.pre at hc
    have h4 : (WTm.not (.lt (.lit (.int (n : Int))) (.len (.arg 0)))).holds [] { args := [.list (ns.map .int)] } = true := by
      have h4 := (holds_andW hc).1
      rw [hn] at h4
      exact h4
    have h5 := condW_of h4 (w_not (w_lt w_lit (w_len_list (w_arg rfl))))
    rw [List.length_map] at h5
    refine Nat.le_of_not_lt fun q => ?_
    have q' : (n : Int) < ((ns.length : Nat) : Int) := by omega
    first
      | (rw [decide_eq_true q'] at h5; exact absurd h5 (by decide))
      | (simp at h5; omega)
  cases hwl with
  | cons w1 w2 =>
    cases w2
    cases w1 with
    | list ho hall => exact ⟨_, _, ns, rfl, rfl, ho, ints_of_wellAll ns _ hall, hlen⟩

theorem post_true (l : OpenLaw) (args : List WData) : l.row.toRowW.claim.post args (.bool true) args = true :=
  postW_of (r := l.row.toRowW) (X := (true == true))
    (show WShape.has [] (.bool true) .bool = true by first | rfl | decide | simp [WShape.has, WShape.arms, WShape.armsAll])
    (show (WTm.eq .res (.lit (.bool true))).value [] { args := args, res := some (.bool true), after := args } = some (.bool (true == true)) from w_eq_bool (w_res rfl) w_lit) rfl

/-! ### the attachment: holds_open's last premise (the goal 'hc' behind k_head) from a wpAny of the law's body -/
/-- the same from a codeAny of the CALL (for a layer whose function contracts speak of calls) -/
theorem attach_call {l : OpenLaw} {n : Nat} {q : Program} {loose : List Str} {XP : (Str → Option Value) → Heap → Prop} {YP : World → Heap → Prop} {d : DefRec}
    (hn : l.most = some n) (hdf : d.params.defaults = [])
    (call : ∀ (w : World) (s₀ s₁ : Shared) (mg mb : Str → Option Value) (fa : Addr) (o : Obj) (pm cd doc : Value) (a : Addr) (vs : List Value) (ns : List Int),
      Ground q loose [] XP w s₀ mg mb s₁.heap → YP w s₁.heap →
      s₁.heap.get? fa = some o → o.data = .func (docDef d.name d.params d.body d.scope pm cd doc) → s₁.heap.CodeRec cd d.name → mg d.name = some (.ref fa) →
      s₁.heap.get? a = some { cls := .type "list", data := .seq vs.toArray } → IntsAre vs ns → ns.length ≤ n → s₁.gens = #[] →
      codeAny (model l.prog w) callerA (.call (.ref fa) ⟨[.ref a], []⟩) (fun r s' => r = .ok (.ret (.bool true)) ∧ OldK s₁.heap s'.heap ∧ s'.os = s₁.os ∧ AllBare s'.gens) s₁) :
    WalkO q loose XP YP l.row.toRowW d [] (fun f vs => PySem.call f vs) := by
  intro w s₀ s₁ mg mb G Y fa o pm cd doc dV kV ho hd hcd hD hmg hg args vals as hpre hlay hrd hwl hlo
  obtain rfl : dV = .none := Dflts.none hD hdf
  obtain rfl : kV = .none := Dflts.noKw hD
  obtain ⟨a, vs, ns, rfl, rfl, hobj, hints, hlen⟩ := script_of hn hpre hwl
  refine enter_call (codeAny_mono (call w s₀ s₁ mg mb fa o pm cd doc a vs ns G Y ho (fd_plain hd) hcd hmg hobj hints hlen hg) fun r s' hq => ?_)
  obtain ⟨rfl, h2, h3, h4⟩ := hq
  exact ⟨.inl ⟨.bool true, .bool true, [], rfl, fun _ => rfl, .bool true, post_true l _, fun _ => ⟨List.Pairwise.nil, fun _ hm => (nomatch hm)⟩⟩, h2, h3, h4⟩

/-! ### rules over ANY heap (no ledger) from facts about the written part K: the library's own take a ledger (News) for what they write -/
section
variable {prog : Program} {w : World} {A : Around} {E : Value → Shared → Prop} {s : Shared} {K : Frag}

/-! the whole heap as the ledger: makes every rule that writes through a ledger a rule over any heap -/
def noObjs (h : Heap) : Heap := { h with objs := #[] }
def ledger (h : Heap) (L d : Addr) : List (Addr × Obj) := (List.range h.objs.size).filterMap fun a => if a = L ∨ a = d then none else (h.get? a).map fun o => (a, o)
end
end Att

namespace L2
open PySem PySem.Spec PyProof.Rows

theorem vals_ints : ∀ {vs : List Value} {ns : List Int}, IntsAre vs ns → Vals (ns.map V.int) vs
  | _, _, .nil => .nil
  | _, _, .cons n t h => .cons ⟨t, rfl⟩ (vals_ints h)

/-- nothing is tracked but the script, known to the object (or it is an object of the module) -/
def Only (H : Hp) : Prop := ∀ b, H b = none ∨ ∃ o xs, H b = some (.frz o (.lst xs))

/-- THE HEAD: the law's promise, at the heap behind the top. F, the promise of the law's def, may use that base is part of the heap (so K.In base, base.Ns mainGlobals mg stand in Mod) -/
theorem law_call {P : Program} {w : World} {K : PySem.W.Frag} {mg mb : Str → Option Value} {CX : CXT} {k : Nat} {fa a : Addr} {fd : FuncData} {x : Str} {sp : Sp} {s₁ : Shared} {vs : List Value} {ns : List Int}
    (KX : K.In s₁.heap) (hns : s₁.heap.Ns mainGlobals mg) (hb : s₁.heap.Ns builtinsNs mb) (hbb : ∀ x : Str, x ≠ "__name__" → mb x = bootBuiltins x) (hlim : s₁.heap.NoLimit) (hg : s₁.gens = #[])
    (ha : s₁.heap.get? a = some { cls := .type "list", data := .seq vs.toArray }) (hi : IntsAre vs ns) (hl : ns.length ≤ sizeLine) (hr : Room k callerA)
    (F : ∀ base : Heap, K.In base → base.Ns mainGlobals mg → FnOk P w K mg base CX k fa fd [x] sp) (hbind : ∀ (s : Shared) (u : Value), BindsTo s fd ⟨[u], []⟩ [(x, u)])
    (hsp : ∀ H : Hp, Only H → SqL K H a (ns.map V.int) → sp [.ref a] H (fun v _ => v = .bl true) fun _ _ _ => False)
    (hCX : ∀ H e s', CX [] H s₁ (fun _ _ _ => False) e s' → False) :
    codeAny (model P w) callerA (.call (.ref fa) ⟨[.ref a], []⟩) (fun r s' => r = .ok (.ret (.bool true)) ∧ OldK s₁.heap s'.heap ∧ s'.os = s₁.os ∧ AllBare s'.gens) s₁ := by
  have rv := vals_ints hi
  have lenV := hi.length
  -- from an abstract heap in which nothing but the script may be tracked
  have core : ∀ H : Hp, Only H → SqL K H a (ns.map V.int) → HOk P w H s₁.heap → (∀ b, H b ≠ none → b = a) → (H a ≠ none → K.lookup a = none) →
      codeAny (model P w) callerA (.call (.ref fa) ⟨[.ref a], []⟩) (fun r s' => r = .ok (.ret (.bool true)) ∧ OldK s₁.heap s'.heap ∧ s'.os = s₁.os ∧ AllBare s'.gens) s₁ := by
    intro H hO hS hok hA hK
    have base_of : ∀ {b : Addr} {o : Obj}, s₁.heap.get? b = some o → H b = none → (hidT s₁.heap H).get? b = some o := fun e n => hidT_get e n
    have noA : ∀ {b : Addr} {o : Obj} {es : Array DictEntry} {ep : Nat}, s₁.heap.get? b = some o → o.data = .dict es ep → H b = none := fun {b o es ep} e d => by
      cases q : H b with
      | none => rfl
      | some u =>
        have e' : b = a := hA b (by rw [q]; simp)
        subst e'
        rw [ha] at e; cases e
        have d' : Data.seq vs.toArray _ = Data.dict es ep := d
        cases d'
    have nsK : ∀ {b : Addr} {m : Str → Option Value}, s₁.heap.Ns b m → (hidT s₁.heap H).Ns b m := fun {b m} ⟨o, es, ep, e, d, r⟩ => ⟨o, es, ep, base_of e (noA e d), d, r⟩
    have hKb : K.In (hidT s₁.heap H) := fun b o e => base_of (KX b o e) (by
      cases q : H b with
      | none => rfl
      | some u =>
        have e' : b = a := hA b (by rw [q]; simp)
        subst e'
        rw [hK (by rw [q]; simp)] at e; cases e)
    have hM : Mod K mg (hidT s₁.heap H) := ⟨hKb, nsK hns, ⟨mb, nsK hb, hbb⟩, let ⟨mc, h1, h2⟩ := hlim; ⟨mc, nsK h1, h2⟩⟩
    have e0 : Env0 P w K mg (hidT s₁.heap H) callerA [] s₁ H := ⟨rfl, hM, fun b o e => of_hidT e, Nat.le_of_eq (hidT_size _ _), trivial, fun b hb => absurd (show b ∈ ([] : List Addr) from hb) (by simp), hok, .of_eq hg⟩
    refine codeAny_mono ((F _ hKb (nsK hns)).run callerA [] s₁ H ⟨[.ref a], []⟩ [.ref a] [.ref a] _ _ hr e0 (hbind s₁ (.ref a)) (.cons rfl .nil) (hsp H hO hS)) fun r s' h => ?_
    cases r with
    | error e => exact (hCX H e s' h).elim
    | ok fl =>
      cases fl with
      | next => exact False.elim h
      | brk => exact False.elim h
      | cont => exact False.elim h
      | ret u =>
        obtain ⟨v, H', os, bare, un, hok', r', q⟩ := h
        have q' : v = .bl true := q
        subst q'
        obtain rfl : u = Value.bool true := r'
        refine ⟨rfl, OldK.of_keep fun b o e => ?_, os, bare⟩
        cases q : H b with
        | none => exact un.keep b o e q (by intro z; exact absurd (show b ∈ ([] : List Addr) from z) (by simp)) (by simp)
        | some u =>
          rcases hO b with z | ⟨ob, xs, z⟩
          · rw [q] at z; cases z
          · have z2 := un.frzs b ob _ z
            obtain ⟨e1, _⟩ := hok b _ z
            obtain ⟨e2, _⟩ := hok' b _ z2
            rw [e] at e1; cases e1
            exact e2
  cases hk : K.lookup a with
  | some o =>
    -- the script is one of the module's own objects
    have e := KX a o hk
    rw [ha] at e
    cases e
    refine core (fun _ => none) (fun _ => .inl rfl) (.inr ⟨_, vs.toArray, _, hk, rfl, rfl, rfl, by rw [List.size_toArray, lenV]; exact hl, by simpa using rv⟩) (fun b u z => by have z' : (none : Option HO) = some u := z; cases z') (fun b z => absurd rfl z) fun z => absurd rfl z
  | none =>
    refine core (fun b => if b = a then some (.frz { cls := .type "list", data := .seq vs.toArray } (.lst (ns.map V.int))) else none) (fun b => ?_) (.inl (.inr ⟨{ cls := .type "list", data := .seq vs.toArray }, if_pos rfl⟩)) (fun b u z => ?_) (fun b z => ?_) fun _ => hk
    · by_cases hb : b = a
      · exact .inr ⟨_, _, if_pos hb⟩
      · exact .inl (if_neg hb)
    · by_cases hb : b = a
      · have z' := (if_pos hb).symm.trans z
        cases z'
        subst hb
        exact ⟨ha, by rw [List.length_map]; exact hl, vs, _, rv, ha⟩
      · have z' := (if_neg hb).symm.trans z
        cases z'
    · by_cases hb : b = a
      · exact hb
      · exact absurd (if_neg hb) z
end L2

namespace L2
open PySem PySem.Spec PyProof.Rows

abbrev KOf {K : PySem.W.Frag} {h : Heap} (_ : K.In h) : PySem.W.Frag := K

/-- the goal that k_head leaves (case hc), from the law's promise. F gives the function object fd (K's own) once, then the promise over every base -/
theorem walk_of {l : PySem.W.OpenLaw} {n k : Nat} {q : Program} {loose : List Str} {XP : (Str → Option Value) → Heap → Prop} {YP : World → Heap → Prop} {d : DefRec} {K : Params → PySem.W.Frag} {CX : World → CXT} {sp : World → Sp} {x : Str}
    (hn : l.most = some n) (hn2 : n ≤ sizeLine) (hdf : d.params.defaults = []) (hr : Room k callerA)
    (hY : ∀ (w : World) (h : Heap), YP w h → (K w.params).In h)
    (F : ∀ (w : World) (mg : Str → Option Value) (fa : Addr) (h : Heap), (K w.params).In h → h.Ns mainGlobals mg → mg d.name = some (.ref fa) →
      ∃ fd : FuncData, (∀ (s : Shared) (u : Value), BindsTo s fd ⟨[u], []⟩ [(x, u)]) ∧
        ∀ base : Heap, (K w.params).In base → base.Ns mainGlobals mg → FnOk l.prog w (K w.params) mg base (CX w) k fa fd [x] (sp w))
    (hsp : ∀ (w : World) (H : Hp) (a : Addr) (ns : List Int), ns.length ≤ n → Only H → SqL (K w.params) H a (ns.map V.int) → sp w [.ref a] H (fun v _ => v = .bl true) fun _ _ _ => False)
    (hCX : ∀ (w : World) (H : Hp) (s : Shared) (e : Value) (s' : Shared), CX w [] H s (fun _ _ _ => False) e s' → False) :
    PySem.W.WalkO q loose XP YP l.row.toRowW d [] (fun f vs => PySem.call f vs) := by
  refine Att.attach_call hn hdf fun w s₀ s₁ mg mb fa o pm cd doc a vs ns G Y ho hd hcd hmg hobj hints hlen hg => ?_
  have KX := hY w _ Y
  obtain ⟨fd, hb, hF⟩ := F w mg fa _ KX G.T.g hmg
  exact law_call KX G.T.g G.T.b G.T.builtins G.T.nolimit hg hobj hints (Nat.le_trans hlen hn2) hr hF hb (fun H hO hS => hsp w H a ns hlen hO hS) fun H e s' => hCX w H s₁ e s'
end L2



/-! SHORT WORDS over the layer: a def of the text, its body, what a loop and a test want. -/
namespace L2
open PySem PySem.Spec PyProof.Rows

/-! ### the text by places -/
/-- the j-th statement of a class's body -/
def inClass (s : Stmt) (j : Nat) : Stmt := match s with
  | .ClassDef _ _ _ body _ _ _ _ _ _ _ => body.getD j (.Pass ⟨0, 0, 0, 0⟩)
  | _ => .Pass ⟨0, 0, 0, 0⟩
def defArgs (s : Stmt) : Arguments := match s with
  | .FunctionDef _ a _ _ _ _ _ _ _ _ => a
  | _ => { posonlyargs := [], args := [], vararg := none, kwonlyargs := [], kw_defaults := [], kwarg := none, defaults := [] }
def defBody (s : Stmt) : List Stmt := match s with
  | .FunctionDef _ _ b _ _ _ _ _ _ _ => b
  | _ => []
def defScope (s : Stmt) : Scope := match s with
  | .FunctionDef _ _ _ _ _ _ sc _ _ _ => sc
  | _ => { kind := .function, names := [], isGenerator := false, isCoroutine := false }

/-! ### no exception leaves a def -/
abbrev CX0 : CXT := fun _ _ _ _ _ _ => False
abbrev E0 : XK := fun _ _ _ => False
theorem pass0 {X : Cx} : Passes CX0 X E0 := fun _ _ _ _ _ _ _ h => h.elim

/-! ### a def (or method) of the text as it stands behind the top -/
structure Fun (K : PySem.W.Frag) (x qual : Str) (st : Stmt) (f : Addr) (fd : FuncData) : Prop where
  ex : ∃ (oc : Value) (od : Option Addr) (kV doc pm : Value) (an : Option Addr) (cdv ct : Value) (osl : Array (Option Value)),
    fd = PySem.W.fnOf x qual (defArgs st) (defBody st) (defScope st) .none kV doc pm an cdv ct ∧ K.lookup f = some ⟨oc, od, .func fd, osl⟩ ∧ PySem.W.codeIn K cdv qual = true
  kp : PySem.W.keepIn K (.ref f) = true
section
variable {P : Program} {w : World} {K : PySem.W.Frag} {mg : Str → Option Value} {base : Heap}
/-- THE RULE for a def: its body as a term of rules, and the reading of that term -/
theorem Fun.ok {x qual : Str} {st : Stmt} {f : Addr} {fd : FuncData} {N ps : List Str} {k : Nat} {sp : Sp} (F : Fun K x qual st f fd) (S : FnScope N ps (defScope st)) (len : ∀ vs H Q E, sp vs H Q E → vs.length = ps.length)
    (hbody : ∀ (cdv : Value) (A : Around) (outer : List Env) (s : Shared) (H : Hp) (vs : List V) (Q : VK) (E : XK), Room k (A.deeper (envOfC qual (defScope st) s.heap.objs.size f cdv)) → sp vs H Q E →
      ∃ t, PSs (cxOf CX0 P w K mg base N qual (defScope st) f cdv A outer s H E).nox (defBody st) t ∧ t { nx := fun _ H' => Q .non H', rt := Q } (start N vs) H) : FnOk P w K mg base CX0 (k + 1) f fd ps sp := by
  obtain ⟨oc, od, kV, doc, pm, an, cdv, ct, osl, rfl, lk, hcd⟩ := F.ex
  refine fn_of lk hcd S len fun A outer s H vs Q E hr hsp => ?_
  obtain ⟨t, h, q⟩ := hbody cdv A outer s H vs Q E hr hsp
  exact ⟨t, h.nox, q⟩
/-- how its arguments bind (no defaults): h is «fun _ _ _ _ _ _ us hl => match us, hl with | [_, _], _ => rfl», one _ a parameter -/
theorem Fun.binds {x qual : Str} {st : Stmt} {f : Addr} {fd : FuncData} {ps : List Str} (F : Fun K x qual st f fd)
    (h : ∀ (kV doc pm : Value) (an : Option Addr) (cdv ct : Value) (us : List Value), us.length = ps.length → bindArgs (PySem.W.fnOf x qual (defArgs st) (defBody st) (defScope st) .none kV doc pm an cdv ct) ⟨us, []⟩ = pure (ps.zip us)) : Binds K fd ps [] := by
  obtain ⟨oc, od, kV, doc, pm, an, cdv, ct, osl, rfl, lk, hcd⟩ := F.ex
  exact .all (h kV doc pm an cdv ct)
theorem fun_mk {x qual : Str} {st : Stmt} {f : Addr} {oc : Value} {od an : Option Addr} {osl : Array (Option Value)} {kV doc pm cdv ct : Value} (l : K.lookup f = some ⟨oc, od, .func (PySem.W.fnOf x qual (defArgs st) (defBody st) (defScope st) .none kV doc pm an cdv ct), osl⟩)
    (c : PySem.W.codeIn K cdv qual = true) (k : PySem.W.keepIn K (.ref f) = true) : Fun K x qual st f (PySem.W.fnOf x qual (defArgs st) (defBody st) (defScope st) .none kV doc pm an cdv ct) := ⟨⟨oc, od, kV, doc, pm, an, cdv, ct, osl, rfl, l, c⟩, k⟩
end
theorem hu_of {A : Around} {k : Nat} (hr : Room k A) : A.units + 1 < cLine := Nat.lt_of_le_of_lt (Nat.add_le_add_left (by decide : 1 ≤ 64) _) hr.units
/-! ### expressions in short: the name that stands in the i-th slot -/
section
variable {X : Cx}
theorem pv (i : Nat) {x : Str} {pos : Pos} (hN : X.N[i]? = some x := by rfl) (hv : Vis X.env.scope x := by first | exact Or.inl rfl | exact Or.inr (Or.inl rfl) | exact Or.inr (Or.inr rfl)) (hd : (x == ("__debug__" : Str)) = false := by decide)
    (hcd : (x == ("__classdict__" : Str)) = false := by decide) : PE X (.Name x pos) (tVar i) := pe_var hN hv hd hcd
/-- len of a dict -/
theorem call_lenD : CallR X (.builtin "len") (fun xs H Q => ∃ a kvs, xs = [V.ref a] ∧ H a = some (.dK kvs) ∧ Q (.int kvs.length) H) := by
  intro pins s σ H xs us Q I r h
  obtain ⟨a, kvs, rfl, ha, q⟩ := h
  obtain ⟨u, rfl, ru⟩ := vals1 r
  cases ru
  exact d_len I (.inl ha) fun t s' I' => ⟨.int kvs.length, H, I', ⟨t, rfl⟩, q⟩
end

/-! ### tests -/
theorem iteF {A B : Prop} (h : B) : if false = true then A else B := by
  rw [if_neg Bool.false_ne_true]
  exact h
theorem iteT {A B : Prop} (h : A) : if true = true then A else B := by
  rw [if_pos rfl]
  exact h
theorem ite2 {c A B : Prop} [Decidable c] (h1 : c → A) (h2 : ¬ c → B) : if c then A else B := by
  by_cases h : c
  · rw [if_pos h]
    exact h1 h
  · rw [if_neg h]
    exact h2 h
/-! ### heaps -/
/-- all that was tracked is as it was -/
def Same (H H' : Hp) : Prop := ∀ b o, H b = some o → H' b = some o
theorem Same.refl (H : Hp) : Same H H := fun _ _ h => h
theorem Same.trans {H H1 H2 : Hp} (a : Same H H1) (b : Same H1 H2) : Same H H2 := fun c o h => b c o (a c o h)
theorem Same.free {H H' : Hp} (e : Same H H') {l : Addr} (h : H' l = Option.none) : H l = Option.none := by
  cases q : H l with
  | none => rfl
  | some o =>
    rw [e l o q] at h
    cases h
theorem Same.seq {K : PySem.W.Frag} {H H' : Hp} {a : Addr} {xs : List V} (e : Same H H') (h : SqL K H a xs) : SqL K H' a xs := by
  rcases h with (h | ⟨o, h⟩) | h
  · exact .inl (.inl (e _ _ h))
  · exact .inl (.inr ⟨o, e _ _ h⟩)
  · exact .inr h

/-! ### a dict's pairs: keys that differ -/
section
variable {κ : Type} [DecidableEq κ]
theorem nd_snoc : ∀ {l : List κ} {k : κ}, l.Nodup → ¬ k ∈ l → (l ++ [k]).Nodup
  | [], k, _, _ => by simp
  | a :: r, k, h, hk => by
    obtain ⟨h1, h2⟩ := List.nodup_cons.mp h
    show (a :: (r ++ [k])).Nodup
    refine List.nodup_cons.mpr ⟨fun m => ?_, nd_snoc h2 fun m => hk (List.mem_cons.mpr (Or.inr m))⟩
    rcases List.mem_append.mp m with q | q
    · exact h1 q
    · exact hk (List.mem_cons.mpr (Or.inl (List.mem_singleton.mp q).symm))
end
end L2
namespace WR

/-- a road: two villages, a length -/
abbrev Road := Int × Int × Int
/-- the road at place i joins p and x, with the length l -/
def Joins (rs : List Road) (i : Nat) (p x l : Int) : Prop := rs[i]? = some (p, x, l) ∨ rs[i]? = some (x, p, l)
theorem Joins.symm {rs : List Road} {i : Nat} {p x l : Int} (h : Joins rs i p x l) : Joins rs i x p l := Or.symm h
theorem Joins.lt {rs : List Road} {i : Nat} {p x l : Int} (h : Joins rs i p x l) : i < rs.length := by
  rcases h with h | h <;> exact (List.getElem?_eq_some_iff.mp h).1
theorem Joins.len {rs : List Road} {i : Nat} {p x l q y m : Int} (h : Joins rs i p x l) (g : Joins rs i q y m) : l = m := by
  rcases h with h | h <;> rcases g with g | g <;> (rw [h] at g; simp only [Option.some.injEq, Prod.mk.injEq] at g; omega)
theorem Joins.ends {rs : List Road} {i : Nat} {p x l q y m : Int} (h : Joins rs i p x l) (g : Joins rs i q y m) : (q = p ∧ y = x) ∨ (q = x ∧ y = p) := by
  rcases h with h | h <;> rcases g with g | g <;> (rw [h] at g; simp only [Option.some.injEq, Prod.mk.injEq] at g; omega)

/-- villages 0 .. n - 1; roads between two unlike ones, of positive length -/
structure Roads (n : Nat) (rs : List Road) : Prop where
  lo : ∀ r ∈ rs, 0 ≤ r.1 ∧ 0 ≤ r.2.1
  hi : ∀ r ∈ rs, r.1 < n ∧ r.2.1 < n
  ne : ∀ r ∈ rs, r.1 ≠ r.2.1
  ps : ∀ r ∈ rs, 1 ≤ r.2.2 ∧ r.2.2 ≤ 1000000
def InV (n : Nat) (x : Int) : Prop := 0 ≤ x ∧ x < n
theorem Roads.joins {n : Nat} {rs : List Road} {i : Nat} {p x l : Int} (R : Roads n rs) (h : Joins rs i p x l) : InV n p ∧ InV n x ∧ p ≠ x ∧ 1 ≤ l ∧ l ≤ 1000000 := by
  rcases h with h | h
  · have m := List.mem_of_getElem? h
    have := R.lo _ m; have := R.hi _ m; have := R.ne _ m; have := R.ps _ m
    exact ⟨⟨by simp_all, by simp_all⟩, ⟨by simp_all, by simp_all⟩, by simp_all, by simp_all, by simp_all⟩
  · have m := List.mem_of_getElem? h
    have := R.lo _ m; have := R.hi _ m; have := R.ne _ m; have := R.ps _ m
    exact ⟨⟨by simp_all, by simp_all⟩, ⟨by simp_all, by simp_all⟩, fun e => R.ne _ m e.symm, by simp_all, by simp_all⟩

/-! ### counting -/
theorem nodup_le {α : Type} [DecidableEq α] : ∀ {l m : List α}, l.Nodup → (∀ x ∈ l, x ∈ m) → l.length ≤ m.length
  | [], _, _, _ => Nat.zero_le _
  | a :: r, m, h, s => by
    obtain ⟨h1, h2⟩ := List.nodup_cons.mp h
    have ha : a ∈ m := s a List.mem_cons_self
    have := nodup_le (l := r) (m := m.erase a) h2 fun x hx => by
      have hne : x ≠ a := fun e => h1 (e ▸ hx)
      exact (List.mem_erase_of_ne hne).mpr (s x (List.mem_cons_of_mem _ hx))
    rw [List.length_erase_of_mem ha] at this
    have : 0 < m.length := List.length_pos_of_mem ha
    rw [List.length_cons]
    omega
/-- as many, and within: all -/
theorem nodup_all {α : Type} [DecidableEq α] {l m : List α} (h : l.Nodup) (s : ∀ x ∈ l, x ∈ m) (e : m.length ≤ l.length) : ∀ x ∈ m, x ∈ l := by
  intro x hx
  refine Decidable.byContradiction fun hn => ?_
  have := nodup_le (l := x :: l) (m := m) (List.nodup_cons.mpr ⟨hn, h⟩) (fun y hy => by
    rcases List.mem_cons.mp hy with rfl | hy
    · exact hx
    · exact s y hy)
  rw [List.length_cons] at this
  omega
theorem map_nodup_on {α β : Type} {f : α → β} : ∀ {l : List α}, l.Nodup → (∀ x ∈ l, ∀ y ∈ l, f x = f y → x = y) → (l.map f).Nodup
  | [], _, _ => List.nodup_nil
  | a :: r, h, g => by
    obtain ⟨h1, h2⟩ := List.nodup_cons.mp h
    rw [List.map_cons]
    refine List.nodup_cons.mpr ⟨fun m => ?_, map_nodup_on h2 fun x hx y hy => g x (List.mem_cons_of_mem _ hx) y (List.mem_cons_of_mem _ hy)⟩
    obtain ⟨y, hy, e⟩ := List.mem_map.mp m
    have := g y (List.mem_cons_of_mem _ hy) a List.mem_cons_self e
    exact h1 (this ▸ hy)
/-- the villages as a list -/
def vil (n : Nat) : List Int := (List.range n).map fun (k : Nat) => (k : Int)
theorem mem_vil {n : Nat} {x : Int} : x ∈ vil n ↔ InV n x := by
  unfold vil InV
  rw [List.mem_map]
  constructor
  · rintro ⟨k, hk, rfl⟩
    have := List.mem_range.mp hk
    omega
  · rintro ⟨h0, h1⟩
    exact ⟨x.toNat, List.mem_range.mpr (by omega), by omega⟩
theorem vil_nodup (n : Nat) : (vil n).Nodup := by
  unfold vil
  exact map_nodup_on List.nodup_range fun a _ b _ e => by omega
theorem vil_length (n : Nat) : (vil n).length = n := by simp [vil]

/-! ### a table of ways from s -/
/-- each village but s has a village towards s (of a lesser rank), a road to it, and how far it is -/
structure Span (n : Nat) (rs : List Road) (s : Int) (par : Int → Int) (idx : Int → Nat) (D : Int → Int) (rk : Int → Nat) : Prop where
  start : D s = 0
  ins : InV n s
  pin : ∀ x, InV n x → x ≠ s → InV n (par x)
  rank : ∀ x, InV n x → x ≠ s → rk (par x) < rk x
  road : ∀ x, InV n x → x ≠ s → ∃ l, Joins rs (idx x) (par x) x l ∧ D x = D (par x) + l

section
variable {n : Nat} {rs : List Road} {s : Int} {par par' : Int → Int} {idx idx' : Int → Nat} {D D' : Int → Int} {rk rk' : Int → Nat}
theorem Span.inj (S : Span n rs s par idx D rk) {x y : Int} (hx : InV n x) (hy : InV n y) (nx : x ≠ s) (ny : y ≠ s) (e : idx x = idx y) : x = y := by
  obtain ⟨l, j, _⟩ := S.road x hx nx
  obtain ⟨m, k, _⟩ := S.road y hy ny
  rw [e] at j
  rcases j.ends k with ⟨a, b⟩ | ⟨a, b⟩
  · exact b.symm
  · have r1 := S.rank x hx nx
    have r2 := S.rank y hy ny
    rw [a] at r2
    rw [← b] at r1
    omega
/-- all roads are used, if there are no more than one less than villages -/
theorem Span.surj (S : Span n rs s par idx D rk) (hn : rs.length + 1 = n) {i : Nat} (hi : i < rs.length) : ∃ x, InV n x ∧ x ≠ s ∧ idx x = i := by
  have hs : s ∈ vil n := mem_vil.mpr S.ins
  have hl : ((vil n).erase s).length = rs.length := by
    rw [List.length_erase_of_mem hs, vil_length]
    omega
  have mem : ∀ x, x ∈ (vil n).erase s → InV n x ∧ x ≠ s := fun x hx => by
    have := (List.Nodup.mem_erase_iff (vil_nodup n)).mp hx
    exact ⟨mem_vil.mp this.2, this.1⟩
  have nd : (((vil n).erase s).map idx).Nodup := map_nodup_on ((vil_nodup n).erase s) fun x hx y hy e => S.inj (mem x hx).1 (mem y hy).1 (mem x hx).2 (mem y hy).2 e
  have sub : ∀ j ∈ ((vil n).erase s).map idx, j ∈ List.range rs.length := fun j hj => by
    obtain ⟨x, hx, rfl⟩ := List.mem_map.mp hj
    obtain ⟨l, jn, _⟩ := S.road x (mem x hx).1 (mem x hx).2
    exact List.mem_range.mpr jn.lt
  have := nodup_all nd sub (by rw [List.length_map, hl, List.length_range]; exact Nat.le_refl _) i (List.mem_range.mpr hi)
  obtain ⟨x, hx, e⟩ := List.mem_map.mp this
  exact ⟨x, (mem x hx).1, (mem x hx).2, e⟩
end

/-- the way up from x: k steps -/
def up (par : Int → Int) : Nat → Int → Int
  | 0, x => x
  | k + 1, x => up par k (par x)
theorem up_succ (par : Int → Int) : ∀ k x, up par (k + 1) x = par (up par k x)
  | 0, _ => rfl
  | k + 1, x => by
    show up par (k + 1) (par x) = par (up par k (par x))
    exact up_succ par k (par x)
section
variable {n : Nat} {rs : List Road} {s t : Int} {par par' : Int → Int} {idx idx' : Int → Nat} {D D' : Int → Int} {rk rk' : Int → Nat}
/-- every village comes up to s -/
theorem Span.reach (S : Span n rs s par idx D rk) : ∀ x, InV n x → ∃ k, up par k x = s ∧ ∀ j, j < k → InV n (up par j x) ∧ up par j x ≠ s := by
  have all : ∀ k x, rk x < k → InV n x → ∃ k, up par k x = s ∧ ∀ j, j < k → InV n (up par j x) ∧ up par j x ≠ s := by
    intro k
    induction k with
    | zero => intro x h; omega
    | succ k ih =>
      intro x hk hx
      by_cases nx : x = s
      · exact ⟨0, nx, fun j hj => absurd hj (Nat.not_lt_zero _)⟩
      · obtain ⟨m, h1, h2⟩ := ih (par x) (by have := S.rank x hx nx; omega) (S.pin x hx nx)
        refine ⟨m + 1, h1, fun j hj => ?_⟩
        cases j with
        | zero => exact ⟨hx, nx⟩
        | succ j => exact h2 j (by omega)
  exact fun x => all (rk x + 1) x (Nat.lt_succ_self _)
/-- from t up to s in the table of s: in the table of t the same roads, the other way -/
theorem Span.turn (S : Span n rs s par idx D rk) (T : Span n rs t par' idx' D' rk') (hn : rs.length + 1 = n) {k : Nat} (hk : ∀ j, j < k → InV n (up par j t) ∧ up par j t ≠ s) :
    ∀ j, j < k → InV n (up par (j + 1) t) ∧ up par (j + 1) t ≠ t ∧ idx' (up par (j + 1) t) = idx (up par j t) ∧ par' (up par (j + 1) t) = up par j t ∧ D' (up par (j + 1) t) + D (up par (j + 1) t) = D t := by
  intro j
  induction j with
  | zero =>
    intro hj
    obtain ⟨h1, h2⟩ := hk 0 hj
    obtain ⟨l, jn, e⟩ := S.road t h1 h2
    obtain ⟨y, hy, ny, ey⟩ := T.surj hn jn.lt
    obtain ⟨m, jy, ed⟩ := T.road y hy ny
    rw [ey] at jy
    have hne : par t ≠ t := fun z => by have := S.rank t h1 h2; rw [z] at this; omega
    rcases jn.ends jy with ⟨a, b⟩ | ⟨a, b⟩
    · exact absurd b ny
    · show InV n (par t) ∧ par t ≠ t ∧ idx' (par t) = idx t ∧ par' (par t) = t ∧ D' (par t) + D (par t) = D t
      rw [b] at a ey ed
      have := jn.len jy
      have e0 : D' t = 0 := T.start
      refine ⟨S.pin t h1 h2, hne, ey, a, ?_⟩
      rw [a, e0] at ed
      omega
  | succ j ih =>
    intro hj
    obtain ⟨i1, i2, i3, i4, i5⟩ := ih (by omega)
    obtain ⟨h1, h2⟩ := hk (j + 1) hj
    obtain ⟨g1, g2⟩ := hk j (by omega)
    rw [up_succ par (j + 1) t]
    generalize hz : up par (j + 1) t = z at *
    obtain ⟨l, jn, e⟩ := S.road z h1 h2
    obtain ⟨y, hy, ny, ey⟩ := T.surj hn jn.lt
    obtain ⟨m, jy, ed⟩ := T.road y hy ny
    rw [ey] at jy
    have hne : par z ≠ z := fun q => by have := S.rank z h1 h2; rw [q] at this; omega
    have noz : y ≠ z := fun q => by
      rw [q, i3] at ey
      have := S.inj g1 h1 g2 h2 ey
      have r := S.rank _ g1 g2
      have : par (up par j t) = z := by rw [← up_succ par j t]; exact hz
      rw [this] at r
      rw [‹up par j t = z›] at r
      omega
    rcases jn.ends jy with ⟨a, b⟩ | ⟨a, b⟩
    · exact absurd b noz
    · rw [b] at a ey ed ny
      have := jn.len jy
      rw [a] at ed
      refine ⟨S.pin z h1 h2, ny, ey, a, ?_⟩
      omega
/-- it is as far from t to s as from s to t -/
theorem Span.symm (S : Span n rs s par idx D rk) (T : Span n rs t par' idx' D' rk') (hn : rs.length + 1 = n) : D t = D' s := by
  obtain ⟨k, h1, h2⟩ := S.reach t T.ins
  cases k with
  | zero =>
    have h1 : t = s := h1
    rw [h1, S.start, ← h1, T.start]
  | succ k =>
    have := (S.turn T hn h2 k (Nat.lt_succ_self _)).2.2.2.2
    rw [h1, S.start] at this
    omega
/-- two villages are joined by one road at most -/
theorem Span.one (S : Span n rs s par idx D rk) (hn : rs.length + 1 = n) {i j : Nat} {l m y : Int} (h : Joins rs i s y l) (g : Joins rs j s y m) : i = j := by
  obtain ⟨x, hx, nx, ex⟩ := S.surj hn h.lt
  obtain ⟨z, hz, nz, ez⟩ := S.surj hn g.lt
  obtain ⟨_, jx, _⟩ := S.road x hx nx
  obtain ⟨_, jz, _⟩ := S.road z hz nz
  rw [ex] at jx
  rw [ez] at jz
  have e1 : x = y := by rcases h.ends jx with ⟨_, b⟩ | ⟨_, b⟩
                        · exact b
                        · exact absurd b nx
  have e2 : z = y := by rcases g.ends jz with ⟨_, b⟩ | ⟨_, b⟩
                        · exact b
                        · exact absurd b nz
  rw [← ex, ← ez, e1, e2]
end

/-! ### tables as they are filled -/
/-- a village, the one next to it towards the start, how far the start is -/
abbrev Ent := Int × Int × Int
def keys (tab : List Ent) : List Int := tab.map (·.1)
structure Tab (rs : List Road) (s : Int) (tab : List Ent) : Prop where
  hd : tab[0]? = some (s, s, 0)
  nd : (keys tab).Nodup
  en : ∀ (j : Nat) (x p d : Int), tab[j]? = some (x, p, d) → 0 < j → ∃ (j' : Nat) (q e : Int) (i : Nat) (l : Int), j' < j ∧ tab[j']? = some (p, q, e) ∧ Joins rs i p x l ∧ d = e + l
theorem mem_keys {tab : List Ent} {x : Int} : x ∈ keys tab ↔ ∃ p d, (x, p, d) ∈ tab := by
  unfold keys
  rw [List.mem_map]
  constructor
  · rintro ⟨⟨y, p, d⟩, h, rfl⟩; exact ⟨p, d, h⟩
  · rintro ⟨p, d, h⟩; exact ⟨_, h, rfl⟩
theorem keys_append (a b : List Ent) : keys (a ++ b) = keys a ++ keys b := List.map_append
theorem Tab.one (rs : List Road) (s : Int) : Tab rs s [(s, s, 0)] := by
  refine ⟨rfl, by simp [keys], fun j x p d h hj => ?_⟩
  cases j with
  | zero => omega
  | succ j => simp at h
section
variable {n : Nat} {rs : List Road} {s : Int} {tab : List Ent}
theorem Tab.start (T : Tab rs s tab) : (s, s, 0) ∈ tab := List.mem_of_getElem? T.hd
theorem Tab.skey (T : Tab rs s tab) : s ∈ keys tab := mem_keys.mpr ⟨_, _, T.start⟩
theorem nd_snoc {α : Type} {l : List α} {a : α} (h : l.Nodup) (ha : a ∉ l) : (l ++ [a]).Nodup := by
  rw [List.nodup_append]
  refine ⟨h, by simp, fun x hx y hy e => ?_⟩
  have := List.mem_singleton.mp hy
  subst this
  exact ha (e ▸ hx)
theorem Tab.snoc (T : Tab rs s tab) {p q e x l : Int} {i : Nat} (hp : (p, q, e) ∈ tab) (hj : Joins rs i p x l) (hx : x ∉ keys tab) : Tab rs s (tab ++ [(x, p, e + l)]) := by
  have hlen : 0 < tab.length := by
    have := T.hd
    cases tab with
    | nil => simp at this
    | cons _ _ => simp
  refine ⟨?_, ?_, fun j y r d h hj' => ?_⟩
  · rw [List.getElem?_append_left hlen]; exact T.hd
  · rw [keys_append]; exact nd_snoc T.nd hx
  · by_cases hlt : j < tab.length
    · rw [List.getElem?_append_left hlt] at h
      obtain ⟨j', q', e', i', l', h1, h2, h3⟩ := T.en j y r d h hj'
      exact ⟨j', q', e', i', l', h1, by rw [List.getElem?_append_left (by omega)]; exact h2, h3⟩
    · have hj2 : j = tab.length := by
        have := (List.getElem?_eq_some_iff.mp h).1
        simp at this; omega
      subst hj2
      rw [List.getElem?_append_right (Nat.le_refl _)] at h
      simp at h
      obtain ⟨rfl, rfl, rfl⟩ := h
      obtain ⟨j', hj1, hj2⟩ := List.mem_iff_getElem.mp hp
      exact ⟨j', q, e, i, l, hj1, by rw [List.getElem?_append_left hj1, List.getElem?_eq_getElem hj1, hj2], hj, rfl⟩
/-- what a table says of x -/
def look (tab : List Ent) (x : Int) : Option (Int × Int) := (tab.find? fun e => decide (e.1 = x)).map (·.2)
theorem look_mem {x p d : Int} (nd : (keys tab).Nodup) (h : (x, p, d) ∈ tab) : look tab x = some (p, d) := by
  induction tab with
  | nil => simp at h
  | cons a r ih =>
    unfold look keys at *
    rw [List.map_cons] at nd
    obtain ⟨n1, n2⟩ := List.nodup_cons.mp nd
    rw [List.find?_cons]
    rcases List.mem_cons.mp h with e | e
    · subst e; simp
    · have : ¬ a.1 = x := fun z => n1 (by rw [z]; exact List.mem_map.mpr ⟨_, e, rfl⟩)
      simp [this]
      simpa using ih n2 e
theorem nodup_place {α : Type} : ∀ {l : List α}, l.Nodup → ∀ {i j : Nat} {x : α}, l[i]? = some x → l[j]? = some x → i = j
  | [], _, i, j, x, h, _ => by simp at h
  | a :: r, nd, i, j, x, h, g => by
    obtain ⟨n1, n2⟩ := List.nodup_cons.mp nd
    cases i with
    | zero =>
      cases j with
      | zero => rfl
      | succ j =>
        simp at h g
        exact absurd (h ▸ List.mem_of_getElem? g) n1
    | succ i =>
      cases j with
      | zero =>
        simp at h g
        exact absurd (g ▸ List.mem_of_getElem? h) n1
      | succ j =>
        simp at h g
        rw [nodup_place n2 h g]
theorem keys_place (nd : (keys tab).Nodup) {i j : Nat} {x p d q e : Int} (h : tab[i]? = some (x, p, d)) (g : tab[j]? = some (x, q, e)) : i = j := by
  have h' : (keys tab)[i]? = some x := by unfold keys; rw [List.getElem?_map, h]; rfl
  have g' : (keys tab)[j]? = some x := by unfold keys; rw [List.getElem?_map, g]; rfl
  exact nodup_place nd h' g'
/-- a table with all villages gives a span -/
theorem Tab.span (T : Tab rs s tab) (hv : ∀ x, InV n x → x ∈ keys tab) (hs : InV n s) (hk : ∀ x ∈ keys tab, InV n x) :
    ∃ (par : Int → Int) (idx : Int → Nat) (D : Int → Int) (rk : Int → Nat), Span n rs s par idx D rk ∧ (∀ x p d, (x, p, d) ∈ tab → D x = d ∧ par x = p) := by
  have place : ∀ x, ∃ j : Nat, InV n x → ∃ p d, tab[j]? = some (x, p, d) := fun x => by
    by_cases h : InV n x
    · obtain ⟨p, d, hm⟩ := mem_keys.mp (hv x h)
      obtain ⟨j, hj⟩ := List.mem_iff_getElem?.mp hm
      exact ⟨j, fun _ => ⟨p, d, hj⟩⟩
    · exact ⟨0, fun q => absurd q h⟩
  let rk : Int → Nat := fun x => Classical.choose (place x)
  have hrk : ∀ x, InV n x → ∃ p d, tab[rk x]? = some (x, p, d) := fun x => Classical.choose_spec (place x)
  let par : Int → Int := fun x => ((look tab x).map (·.1)).getD 0
  let D : Int → Int := fun x => ((look tab x).map (·.2)).getD 0
  have val : ∀ x p d, (x, p, d) ∈ tab → D x = d ∧ par x = p := fun x p d h => by
    have := look_mem T.nd h
    exact ⟨by show ((look tab x).map (·.2)).getD 0 = d; rw [this]; rfl, by show ((look tab x).map (·.1)).getD 0 = p; rw [this]; rfl⟩
  have step : ∀ x, ∃ i : Nat, InV n x → x ≠ s → InV n (par x) ∧ rk (par x) < rk x ∧ ∃ l, Joins rs i (par x) x l ∧ D x = D (par x) + l := fun x => by
    by_cases h : InV n x ∧ x ≠ s
    · obtain ⟨hx, nx⟩ := h
      obtain ⟨p, d, hj⟩ := hrk x hx
      have h0 : 0 < rk x := by
        refine Nat.pos_of_ne_zero fun z => ?_
        rw [z, T.hd] at hj
        simp at hj
        exact nx hj.1.symm
      obtain ⟨j', q, e, i, l, h1, h2, h3, h4⟩ := T.en _ x p d hj h0
      obtain ⟨vd, vp⟩ := val x p d (List.mem_of_getElem? hj)
      obtain ⟨ve, _⟩ := val p q e (List.mem_of_getElem? h2)
      have hp : InV n p := hk p (mem_keys.mpr ⟨q, e, List.mem_of_getElem? h2⟩)
      obtain ⟨q', e', hj'⟩ := hrk p hp
      have := keys_place T.nd h2 hj'
      refine ⟨i, fun _ _ => ?_⟩
      rw [vp, vd, ve]
      exact ⟨hp, by omega, l, h3, h4⟩
    · exact ⟨0, fun a b => absurd ⟨a, b⟩ h⟩
  refine ⟨par, fun x => Classical.choose (step x), D, rk, ⟨(val s s 0 T.start).1, hs, fun x hx nx => ?_, fun x hx nx => ?_, fun x hx nx => ?_⟩, val⟩
  · exact (Classical.choose_spec (step x) hx nx).1
  · exact (Classical.choose_spec (step x) hx nx).2.1
  · exact (Classical.choose_spec (step x) hx nx).2.2
end

/-! ### trees -/
/-- from 0 one comes everywhere -/
def Conn (n : Nat) (rs : List Road) : Prop := ∀ K : Int → Prop, K 0 → (∀ i x y l, K x → Joins rs i x y l → K y) → ∀ v, InV n v → K v
structure Tree (n : Nat) (rs : List Road) : Prop where
  roads : Roads n rs
  count : rs.length + 1 = n
  conn : Conn n rs
section
variable {n : Nat} {rs : List Road} {s : Int} {tab : List Ent}
theorem Conn.from (C : Conn n rs) (h0 : InV n s) (K : Int → Prop) (hs : K s) (hc : ∀ i x y l, K x → Joins rs i x y l → K y) : ∀ v, InV n v → K v := by
  have k0 : K 0 := by
    refine Classical.byContradiction fun h => ?_
    exact C (fun v => ¬ K v) h (fun i x y l nx j ky => nx (hc i y x l ky j.symm)) s h0 hs
  exact C K k0 hc
/-- all roads at it are gone -/
def Closed (rs : List Road) (tab : List Ent) (x : Int) : Prop := ∀ (i : Nat) (y l : Int), Joins rs i x y l → y ∈ keys tab
theorem Tab.inv (T : Tab rs s tab) (R : Roads n rs) (hs : InV n s) : ∀ x ∈ keys tab, InV n x := by
  have all : ∀ (k j : Nat) (x p d : Int), j < k → tab[j]? = some (x, p, d) → InV n x := by
    intro k
    induction k with
    | zero => intro j x p d h; omega
    | succ k ih =>
      intro j x p d hj h
      cases j with
      | zero =>
        rw [T.hd] at h
        simp at h
        rw [← h.1]; exact hs
      | succ j =>
        obtain ⟨j', q, e, i, l, h1, h2, h3, h4⟩ := T.en _ x p d h (Nat.succ_pos _)
        exact (R.joins h3).2.1
  intro x hx
  obtain ⟨p, d, hm⟩ := mem_keys.mp hx
  obtain ⟨j, hj⟩ := List.mem_iff_getElem?.mp hm
  exact all (j + 1) j x p d (Nat.lt_succ_self _) hj
theorem keys_length (tab : List Ent) : (keys tab).length = tab.length := by simp [keys]
theorem Tab.le (T : Tab rs s tab) (R : Roads n rs) (hs : InV n s) : tab.length ≤ n := by
  have := nodup_le T.nd (m := vil n) fun x hx => mem_vil.mpr (T.inv R hs x hx)
  rw [vil_length, keys_length] at this
  exact this
theorem Tab.all (T : Tab rs s tab) (C : Conn n rs) (hs : InV n s) (hc : ∀ x ∈ keys tab, Closed rs tab x) : ∀ x, InV n x → x ∈ keys tab :=
  C.from hs (fun x => x ∈ keys tab) T.skey fun i x y l kx j => hc x kx i y l j
theorem Tab.full (T : Tab rs s tab) (R : Roads n rs) (C : Conn n rs) (hs : InV n s) (hc : ∀ x ∈ keys tab, Closed rs tab x) : tab.length = n := by
  have h1 := T.le R hs
  have h2 := nodup_le (vil_nodup n) (m := keys tab) fun x hx => T.all C hs hc x (mem_vil.mp hx)
  rw [vil_length, keys_length] at h2
  omega
/-- as many as villages come: connected -/
theorem Tab.conn (T : Tab rs 0 tab) (R : Roads n rs) (h0 : InV n 0) (hl : tab.length = n) : Conn n rs := by
  intro K k0 hc v hv
  have all : ∀ (k j : Nat) (x p d : Int), j < k → tab[j]? = some (x, p, d) → K x := by
    intro k
    induction k with
    | zero => intro j x p d h; omega
    | succ k ih =>
      intro j x p d hj h
      cases j with
      | zero =>
        rw [T.hd] at h
        simp at h
        rw [← h.1]; exact k0
      | succ j =>
        obtain ⟨j', q, e, i, l, h1, h2, h3, h4⟩ := T.en _ x p d h (Nat.succ_pos _)
        exact hc i p x l (ih j' p q e (by omega) h2) h3
  have hm : v ∈ keys tab := nodup_all T.nd (m := vil n) (fun x hx => mem_vil.mpr (T.inv R h0 x hx)) (by rw [vil_length, keys_length, hl]; exact Nat.le_refl _) v (mem_vil.mpr hv)
  obtain ⟨p, d, hm⟩ := mem_keys.mp hm
  obtain ⟨j, hj⟩ := List.mem_iff_getElem?.mp hm
  exact all (j + 1) j v p d (Nat.lt_succ_self _) hj
end
end WR
namespace WR
/-! ### the steps from a village -/
def stepsOf (r : Road) (v : Int) : List (Int × Int) := (if r.1 = v then [(r.2.1, r.2.2)] else []) ++ (if r.2.1 = v then [(r.1, r.2.2)] else [])
def stepsM (rs : List Road) (v : Int) : List (Int × Int) := rs.flatMap fun r => stepsOf r v
theorem stepsM_take {rs : List Road} {v : Int} {i : Nat} {r : Road} (h : rs[i]? = some r) : stepsM (rs.take (i + 1)) v = stepsM (rs.take i) v ++ stepsOf r v := by
  unfold stepsM
  rw [List.take_add_one, h, List.flatMap_append]
  simp
theorem mem_stepsOf {r : Road} {v y l : Int} : (y, l) ∈ stepsOf r v ↔ r = (v, y, l) ∨ r = (y, v, l) := by
  obtain ⟨a, b, c⟩ := r
  unfold stepsOf
  rw [List.mem_append]
  simp only [Prod.mk.injEq]
  constructor
  · rintro (h | h)
    · split at h
      · simp at h; omega
      · simp at h
    · split at h
      · simp at h; omega
      · simp at h
  · rintro (⟨h1, h2, h3⟩ | ⟨h1, h2, h3⟩)
    · left; simp [h1, h2, h3]
    · right; simp [h1, h2, h3]
theorem mem_stepsM {rs : List Road} {v y l : Int} : (y, l) ∈ stepsM rs v ↔ ∃ i, Joins rs i v y l := by
  unfold stepsM
  rw [List.mem_flatMap]
  constructor
  · rintro ⟨r, hr, h⟩
    obtain ⟨i, hi⟩ := List.mem_iff_getElem?.mp hr
    refine ⟨i, ?_⟩
    rcases mem_stepsOf.mp h with e | e
    · left; rw [hi, e]
    · right; rw [hi, e]
  · rintro ⟨i, h | h⟩
    · exact ⟨_, List.mem_of_getElem? h, mem_stepsOf.mpr (.inl rfl)⟩
    · exact ⟨_, List.mem_of_getElem? h, mem_stepsOf.mpr (.inr rfl)⟩
theorem stepsOf_length (r : Road) (v : Int) : (stepsOf r v).length ≤ 2 := by
  unfold stepsOf
  split <;> split <;> simp
theorem stepsM_length (rs : List Road) (v : Int) : (stepsM rs v).length ≤ 2 * rs.length := by
  unfold stepsM
  induction rs with
  | nil => simp
  | cons r t ih =>
    rw [List.flatMap_cons, List.length_append, List.length_cons]
    have := stepsOf_length r v
    omega

/-! ### the walk from s -/
structure RI (rs : List Road) (s : Int) (tab : List Ent) (ws : List Int) : Prop where
  T : Tab rs s tab
  sub : ∀ x ∈ ws, x ∈ keys tab
  cl : ∀ x ∈ keys tab, x ∉ ws → Closed rs tab x
structure RJ (rs : List Road) (s h : Int) (j : Nat) (tab : List Ent) (ws : List Int) : Prop where
  T : Tab rs s tab
  sub : ∀ x ∈ ws, x ∈ keys tab
  here : h ∈ keys tab
  cl : ∀ x ∈ keys tab, x ∉ ws → x ≠ h → Closed rs tab x
  done : ∀ y l, (y, l) ∈ (stepsM rs h).take j → y ∈ keys tab
section
variable {rs : List Road} {s h : Int} {j : Nat} {tab : List Ent} {ws : List Int}
theorem RI.begin (rs : List Road) (s : Int) : RI rs s [(s, s, 0)] [s] := by
  refine ⟨Tab.one rs s, fun x hx => ?_, fun x hx nx => ?_⟩
  · simpa [keys] using hx
  · exact absurd (by simpa [keys] using hx) nx
theorem RI.pop (I : RI rs s tab (ws ++ [h])) : RJ rs s h 0 tab ws :=
  ⟨I.T, fun x hx => I.sub x (List.mem_append_left _ hx), I.sub h (by simp), fun x hx nx ne => I.cl x hx (by simp [nx, ne]), fun y l m => by simp at m⟩
theorem Closed.more {tab more : List Ent} {x : Int} (c : Closed rs tab x) : Closed rs (tab ++ more) x := fun i y l jn => by
  rw [keys_append]
  exact List.mem_append_left _ (c i y l jn)
theorem take_next {α : Type} {l : List α} {j : Nat} {a x : α} (h : l[j]? = some a) (m : x ∈ l.take (j + 1)) : x ∈ l.take j ∨ x = a := by
  rw [List.take_add_one, h] at m
  simpa using m
theorem RJ.skip (I : RJ rs s h j tab ws) {y l : Int} (e : (stepsM rs h)[j]? = some (y, l)) (k : y ∈ keys tab) : RJ rs s h (j + 1) tab ws :=
  ⟨I.T, I.sub, I.here, I.cl, fun z m hm => by
    rcases take_next e hm with q | q
    · exact I.done z m q
    · simp at q; rw [q.1]; exact k⟩
theorem RJ.add (I : RJ rs s h j tab ws) {y l q d : Int} (e : (stepsM rs h)[j]? = some (y, l)) (k : y ∉ keys tab) (hq : (h, q, d) ∈ tab) : RJ rs s h (j + 1) (tab ++ [(y, h, d + l)]) (ws ++ [y]) := by
  obtain ⟨i, jn⟩ := mem_stepsM.mp (List.mem_of_getElem? e)
  have ky : y ∈ keys (tab ++ [(y, h, d + l)]) := by rw [keys_append]; simp [keys]
  have mono : ∀ x, x ∈ keys tab → x ∈ keys (tab ++ [(y, h, d + l)]) := fun x hx => by rw [keys_append]; exact List.mem_append_left _ hx
  refine ⟨I.T.snoc hq jn k, fun x hx => ?_, mono _ I.here, fun x hx nx ne => ?_, fun z m hm => ?_⟩
  · rcases List.mem_append.mp hx with z | z
    · exact mono x (I.sub x z)
    · rw [List.mem_singleton.mp z]; exact ky
  · rw [keys_append] at hx
    rcases List.mem_append.mp hx with z | z
    · exact (I.cl x z (fun m => nx (List.mem_append_left _ m)) ne).more
    · exact absurd (by simpa [keys] using z) (fun z : x = y => nx (by rw [z]; simp))
  · rcases take_next e hm with q | q
    · exact mono z (I.done z m q)
    · simp at q; rw [q.1]; exact ky
theorem RJ.fin (I : RJ rs s h (stepsM rs h).length tab ws) : RI rs s tab ws :=
  ⟨I.T, I.sub, fun x hx nx => by
    by_cases e : x = h
    · subst e
      intro i y l jn
      exact I.done y l (by rw [List.take_length]; exact mem_stepsM.mpr ⟨i, jn⟩)
    · exact I.cl x hx nx e⟩
theorem RI.fin (I : RI rs s tab []) : ∀ x ∈ keys tab, Closed rs tab x := fun x hx => I.cl x hx (by simp)
theorem Tab.key_end (T : Tab rs s tab) : ∀ x ∈ keys tab, x ∈ s :: (rs.map (·.1) ++ rs.map (·.2.1)) := by
  intro x hx
  obtain ⟨p, d, hm⟩ := mem_keys.mp hx
  obtain ⟨j, hj⟩ := List.mem_iff_getElem?.mp hm
  cases j with
  | zero =>
    rw [T.hd] at hj
    simp at hj
    rw [hj.1]; simp
  | succ j =>
    obtain ⟨j', q, e, i, l, h1, h2, h3, h4⟩ := T.en _ x p d hj (Nat.succ_pos _)
    refine List.mem_cons_of_mem _ (List.mem_append.mpr ?_)
    rcases h3 with z | z
    · right; exact List.mem_map.mpr ⟨_, List.mem_of_getElem? z, rfl⟩
    · left; exact List.mem_map.mpr ⟨_, List.mem_of_getElem? z, rfl⟩
theorem Tab.bound (T : Tab rs s tab) : tab.length ≤ 2 * rs.length + 1 := by
  have := nodup_le T.nd T.key_end
  rw [keys_length, List.length_cons, List.length_append, List.length_map, List.length_map] at this
  omega
end

/-! ### the law's own walk -/
def dist (tab : List Ent) (x : Int) : Int := ((look tab x).map (·.2)).getD 0
def relax1 (tab : List Ent) (r : Road) : List Ent :=
  if r.1 ∈ keys tab ∧ r.2.1 ∉ keys tab then tab ++ [(r.2.1, r.1, dist tab r.1 + r.2.2)]
  else if r.2.1 ∈ keys tab ∧ r.1 ∉ keys tab then tab ++ [(r.1, r.2.1, dist tab r.2.1 + r.2.2)] else tab
def relaxR (rs : List Road) (tab : List Ent) : List Ent := rs.foldl relax1 tab
def relaxN (rs : List Road) : Nat → List Ent → List Ent
  | 0, tab => tab
  | k + 1, tab => relaxR rs (relaxN rs k tab)
section
variable {n : Nat} {rs : List Road} {s : Int} {tab : List Ent}
theorem look_key {x : Int} (nd : (keys tab).Nodup) (h : x ∈ keys tab) : ∃ p, (x, p, dist tab x) ∈ tab := by
  obtain ⟨p, d, hm⟩ := mem_keys.mp h
  refine ⟨p, ?_⟩
  have := look_mem nd hm
  unfold dist
  rw [this]
  exact hm
theorem relax1_more (tab : List Ent) (r : Road) : ∃ more, relax1 tab r = tab ++ more := by
  unfold relax1
  split
  · exact ⟨_, rfl⟩
  · split
    · exact ⟨_, rfl⟩
    · exact ⟨[], by simp⟩
theorem Tab.relax1 (T : Tab rs s tab) {i : Nat} {r : Road} (h : rs[i]? = some r) : Tab rs s (WR.relax1 tab r) := by
  obtain ⟨a, b, l⟩ := r
  unfold WR.relax1
  split
  · rename_i c
    obtain ⟨p, hp⟩ := look_key T.nd c.1
    exact T.snoc hp (i := i) (.inl h) c.2
  · split
    · rename_i c
      obtain ⟨p, hp⟩ := look_key T.nd c.1
      exact T.snoc hp (i := i) (.inr h) c.2
    · exact T
theorem foldl_more (f : List Ent → Road → List Ent) (hf : ∀ t r, ∃ more, f t r = t ++ more) : ∀ (l : List Road) (t : List Ent), ∃ more, l.foldl f t = t ++ more
  | [], t => ⟨[], by simp⟩
  | r :: l, t => by
    obtain ⟨m1, e1⟩ := hf t r
    obtain ⟨m2, e2⟩ := foldl_more f hf l (f t r)
    exact ⟨m1 ++ m2, by rw [List.foldl_cons, e2, e1, List.append_assoc]⟩
theorem Tab.relaxL (T : Tab rs s tab) : ∀ (l : List Road), (∀ r ∈ l, r ∈ rs) → Tab rs s (l.foldl WR.relax1 tab) := by
  intro l
  induction l generalizing tab with
  | nil => intro _; exact T
  | cons r l ih =>
    intro h
    obtain ⟨i, hi⟩ := List.mem_iff_getElem?.mp (h r List.mem_cons_self)
    rw [List.foldl_cons]
    exact ih (T.relax1 hi) fun q hq => h q (List.mem_cons_of_mem _ hq)
theorem Tab.relaxR (T : Tab rs s tab) : Tab rs s (WR.relaxR rs tab) := T.relaxL rs fun _ h => h
theorem Tab.relaxN (T : Tab rs s tab) : ∀ k, Tab rs s (WR.relaxN rs k tab)
  | 0 => T
  | k + 1 => (T.relaxN k).relaxR
/-- one round more: one village more, if there is one -/
theorem relax_grow (T : Tab rs s tab) (C : Conn n rs) (hs : InV n s) (hlt : ∃ x, InV n x ∧ x ∉ keys tab) : tab.length + 1 ≤ (WR.relaxR rs tab).length := by
  have hex : ∃ i x y l, Joins rs i x y l ∧ x ∈ keys tab ∧ y ∉ keys tab := by
    refine Classical.byContradiction fun hn => ?_
    obtain ⟨x, hx, nx⟩ := hlt
    refine nx (T.all C hs (fun z hz i y l jn => ?_) x hx)
    exact Classical.byContradiction fun q => hn ⟨i, z, y, l, jn, hz, q⟩
  obtain ⟨i, x, y, l, jn, kx, ky⟩ := hex
  have grow : ∀ t : List Ent, (∃ more, t = tab ++ more) → y ∈ keys t → tab.length + 1 ≤ t.length := by
    rintro t ⟨more, rfl⟩ hy
    cases more with
    | nil => simp at hy; exact absurd hy ky
    | cons _ _ => simp
  have hi := jn.lt
  unfold WR.relaxR
  have split : rs = rs.take i ++ rs[i] :: rs.drop (i + 1) := by
    rw [← List.drop_eq_getElem_cons hi, List.take_append_drop]
  have hr : rs[i]? = some rs[i] := List.getElem?_eq_getElem hi
  generalize rs[i] = r at split hr
  rw [split, List.foldl_append, List.foldl_cons]
  obtain ⟨m1, e1⟩ := foldl_more relax1 relax1_more (rs.take i) tab
  obtain ⟨m2, e2⟩ := relax1_more ((rs.take i).foldl relax1 tab) r
  obtain ⟨m3, e3⟩ := foldl_more relax1 relax1_more (rs.drop (i + 1)) (relax1 ((rs.take i).foldl relax1 tab) r)
  have T1 : Tab rs s ((rs.take i).foldl relax1 tab) := T.relaxL _ fun q hq => List.mem_of_mem_take hq
  have kx1 : x ∈ keys ((rs.take i).foldl relax1 tab) := by rw [e1, keys_append]; exact List.mem_append_left _ kx
  have step : y ∈ keys (relax1 ((rs.take i).foldl relax1 tab) r) := by
    by_cases hy : y ∈ keys ((rs.take i).foldl relax1 tab)
    · rw [e2, keys_append]; exact List.mem_append_left _ hy
    · unfold relax1
      rcases jn with z | z
      · rw [hr] at z
        have z := Option.some.inj z
        subst z
        rw [if_pos ⟨kx1, hy⟩, keys_append]
        simp [keys]
      · rw [hr] at z
        have z := Option.some.inj z
        subst z
        rw [if_neg (fun c => hy c.1), if_pos ⟨kx1, hy⟩, keys_append]
        simp [keys]
  refine grow _ ⟨m1 ++ m2 ++ m3, by rw [e3, e2, e1]; simp⟩ ?_
  rw [e3, keys_append]
  exact List.mem_append_left _ step
theorem relaxN_len (T : Tab rs s tab) (R : Roads n rs) (C : Conn n rs) (hs : InV n s) : ∀ k, min n (tab.length + k) ≤ (relaxN rs k tab).length
  | 0 => by simp only [relaxN]; omega
  | k + 1 => by
    have ih := relaxN_len T R C hs k
    have Tk := T.relaxN k
    by_cases h : ∃ x, InV n x ∧ x ∉ keys (relaxN rs k tab)
    · have := relax_grow Tk C hs h
      show _ ≤ (relaxR rs (relaxN rs k tab)).length
      omega
    · have h2 := nodup_le (vil_nodup n) (m := keys (relaxN rs k tab)) fun x hx => Classical.byContradiction fun q => h ⟨x, mem_vil.mp hx, q⟩
      rw [vil_length, keys_length] at h2
      obtain ⟨m, e⟩ := foldl_more relax1 relax1_more rs (relaxN rs k tab)
      show _ ≤ (relaxR rs (relaxN rs k tab)).length
      unfold relaxR
      rw [e, List.length_append]
      omega
/-- after n rounds all villages are there -/
theorem relax_all (R : Roads n rs) (C : Conn n rs) (hs : InV n s) : ∀ x, InV n x → x ∈ keys (relaxN rs n [(s, s, 0)]) := by
  intro x hx
  have T := (Tab.one rs s).relaxN n
  have := relaxN_len (Tab.one rs s) R C hs n
  have l2 : n ≤ (relaxN rs n [(s, s, 0)]).length := by omega
  exact nodup_all T.nd (m := vil n) (fun y hy => mem_vil.mpr (T.inv R hs y hy)) (by rw [vil_length, keys_length]; exact l2) x (mem_vil.mpr hx)
end

/-! ### how far it is -/
/-- by the law's own walk -/
def far (n : Nat) (rs : List Road) (s x : Int) : Int := dist (relaxN rs n [(s, s, 0)]) x
section
variable {n : Nat} {rs : List Road} {s t : Int} {tab : List Ent}
theorem dist_mem {x p d : Int} (nd : (keys tab).Nodup) (h : (x, p, d) ∈ tab) : dist tab x = d := by
  unfold dist
  rw [look_mem nd h]
  rfl
theorem Span.congr {par : Int → Int} {idx : Int → Nat} {D D' : Int → Int} {rk : Int → Nat} (S : Span n rs s par idx D rk) (e : ∀ x, InV n x → D x = D' x) : Span n rs s par idx D' rk :=
  ⟨by rw [← e s S.ins]; exact S.start, S.ins, S.pin, S.rank, fun x hx nx => by
    obtain ⟨l, j, h⟩ := S.road x hx nx
    exact ⟨l, j, by rw [← e x hx, ← e _ (S.pin x hx nx)]; exact h⟩⟩
theorem Tree.span (W : Tree n rs) (hs : InV n s) : ∃ (par : Int → Int) (idx : Int → Nat) (rk : Int → Nat), Span n rs s par idx (far n rs s) rk := by
  have T := (Tab.one rs s).relaxN n
  obtain ⟨par, idx, D, rk, S, v⟩ := T.span (relax_all W.roads W.conn hs) hs (T.inv W.roads hs)
  refine ⟨par, idx, rk, S.congr fun x hx => ?_⟩
  obtain ⟨p, d, hm⟩ := mem_keys.mp (relax_all W.roads W.conn hs x hx)
  rw [(v x p d hm).1]
  exact (dist_mem T.nd hm).symm
end

/-! ### what makes a tree -/
theorem InV.zero {n : Nat} (h : 0 < n) : InV n 0 := ⟨Int.le_refl _, by omega⟩
/-- the count of what is reached from 0 tells a tree -/
theorem tree_iff {n : Nat} {rs : List Road} {tab : List Ent} (R : Roads n rs) (hl : rs.length + 1 = n) (T : Tab rs 0 tab) (hc : ∀ x ∈ keys tab, Closed rs tab x) : tab.length = n ↔ Tree n rs := by
  have h0 : InV n 0 := InV.zero (by omega)
  constructor
  · intro e
    exact ⟨R, hl, T.conn R h0 e⟩
  · intro W
    exact T.full R W.conn h0 hc
end WR
namespace WR
/-! ### the villages' names -/
def nameM (k n turn : Int) : Int := if 1 < n ∧ (turn = 1 ∨ n % turn ≠ 0) then k * turn % n else k
theorem nameM_all : ∀ (n : Fin 12) (t : Fin 4) (k j : Fin 12), k.val < n.val + 1 → j.val < n.val + 1 →
    (0 ≤ nameM k.val (n.val + 1 : Nat) ([1, 5, 7, 11].getD t.val 1) ∧ nameM k.val (n.val + 1 : Nat) ([1, 5, 7, 11].getD t.val 1) < (n.val + 1 : Nat)) ∧
    (nameM k.val (n.val + 1 : Nat) ([1, 5, 7, 11].getD t.val 1) = nameM j.val (n.val + 1 : Nat) ([1, 5, 7, 11].getD t.val 1) → k = j) := by
  decide +kernel
def IsTurn (t : Int) : Prop := t = 1 ∨ t = 5 ∨ t = 7 ∨ t = 11
theorem IsTurn.at {t : Int} (h : IsTurn t) : ∃ i : Fin 4, ([1, 5, 7, 11] : List Int).getD i.val 1 = t := by
  rcases h with rfl | rfl | rfl | rfl
  · exact ⟨0, rfl⟩
  · exact ⟨1, rfl⟩
  · exact ⟨2, rfl⟩
  · exact ⟨3, rfl⟩
theorem name_in {n k : Nat} {t : Int} (ht : IsTurn t) (hn : n ≤ 12) (hk : k < n) : InV n (nameM k n t) := by
  obtain ⟨i, rfl⟩ := ht.at
  obtain ⟨m, rfl⟩ : ∃ m, n = m + 1 := ⟨n - 1, by omega⟩
  exact (nameM_all ⟨m, by omega⟩ i ⟨k, by omega⟩ ⟨k, by omega⟩ hk hk).1
theorem name_inj {n k j : Nat} {t : Int} (ht : IsTurn t) (hn : n ≤ 12) (hk : k < n) (hj : j < n) (e : nameM k n t = nameM j n t) : k = j := by
  obtain ⟨i, rfl⟩ := ht.at
  obtain ⟨m, rfl⟩ : ∃ m, n = m + 1 := ⟨n - 1, by omega⟩
  have := (nameM_all ⟨m, by omega⟩ i ⟨k, by omega⟩ ⟨j, by omega⟩ hk hj).2 e
  exact congrArg Fin.val this
theorem name_zero (n t : Int) : nameM 0 n t = 0 := by
  unfold nameM
  split
  · rw [Int.zero_mul, Int.zero_emod]
  · rfl
/-! ### a tree that grows -/
/-- the first k villages are joined -/
structure Built (n : Nat) (t : Int) (k : Nat) (rs : List Road) : Prop where
  len : rs.length + 1 = k
  roads : Roads n rs
  conn : ∀ K : Int → Prop, K 0 → (∀ i x y l, K x → Joins rs i x y l → K y) → ∀ j : Nat, j < k → K (nameM j n t)
theorem Built.begin (n : Nat) (t : Int) : Built n t 1 [] := by
  refine ⟨rfl, ⟨by simp, by simp, by simp, by simp⟩, fun K k0 _ j hj => ?_⟩
  have : j = 0 := by omega
  subst this
  show K (nameM 0 n t)
  rw [name_zero]
  exact k0
/-- r put in at place p -/
def putAt {α : Type} (rs : List α) (p : Nat) (r : α) : List α := rs.take p ++ r :: rs.drop p
theorem mem_putAt {α : Type} {rs : List α} {p : Nat} {r x : α} : x ∈ putAt rs p r ↔ x = r ∨ x ∈ rs := by
  unfold putAt
  rw [List.mem_append, List.mem_cons]
  constructor
  · rintro (h | h | h)
    · exact .inr (List.mem_of_mem_take h)
    · exact .inl h
    · exact .inr (List.mem_of_mem_drop h)
  · rintro (h | h)
    · exact .inr (.inl h)
    · rw [← List.take_append_drop p rs] at h
      rcases List.mem_append.mp h with h | h
      · exact .inl h
      · exact .inr (.inr h)
theorem length_putAt {α : Type} {rs : List α} {p : Nat} {r : α} (hp : p ≤ rs.length) : (putAt rs p r).length = rs.length + 1 := by
  unfold putAt
  rw [List.length_append, List.length_take, List.length_cons, List.length_drop]
  omega
theorem joins_mem {rs : List Road} {x y l : Int} : (∃ i, Joins rs i x y l) ↔ (x, y, l) ∈ rs ∨ (y, x, l) ∈ rs := by
  constructor
  · rintro ⟨i, h | h⟩
    · exact .inl (List.mem_of_getElem? h)
    · exact .inr (List.mem_of_getElem? h)
  · rintro (h | h)
    · obtain ⟨i, hi⟩ := List.mem_iff_getElem?.mp h
      exact ⟨i, .inl hi⟩
    · obtain ⟨i, hi⟩ := List.mem_iff_getElem?.mp h
      exact ⟨i, .inr hi⟩
theorem Built.step {n k : Nat} {t : Int} {rs : List Road} (B : Built n t k rs) (ht : IsTurn t) (hn : n ≤ 12) (hk : k < n) {a p : Nat} {l : Int} {r : Road} (ha : a < k) (hp : p ≤ rs.length) (l1 : 1 ≤ l) (l2 : l ≤ 1000000)
    (hr : r = (nameM k n t, nameM a n t, l) ∨ r = (nameM a n t, nameM k n t, l)) : Built n t (k + 1) (putAt rs p r) := by
  have hin1 := name_in ht hn hk
  have hin2 := name_in ht hn (show a < n by omega)
  have hne : nameM k n t ≠ nameM a n t := fun e => by have := name_inj ht hn hk (by omega) e; omega
  refine ⟨by rw [length_putAt hp, B.len], ⟨fun q hq => ?_, fun q hq => ?_, fun q hq => ?_, fun q hq => ?_⟩, fun K k0 hc j hj => ?_⟩
  · rcases mem_putAt.mp hq with rfl | h
    · rcases hr with rfl | rfl
      · exact ⟨hin1.1, hin2.1⟩
      · exact ⟨hin2.1, hin1.1⟩
    · exact B.roads.lo q h
  · rcases mem_putAt.mp hq with rfl | h
    · rcases hr with rfl | rfl
      · exact ⟨hin1.2, hin2.2⟩
      · exact ⟨hin2.2, hin1.2⟩
    · exact B.roads.hi q h
  · rcases mem_putAt.mp hq with rfl | h
    · rcases hr with rfl | rfl
      · exact hne
      · exact hne.symm
    · exact B.roads.ne q h
  · rcases mem_putAt.mp hq with rfl | h
    · rcases hr with rfl | rfl <;> exact ⟨l1, l2⟩
    · exact B.roads.ps q h
  · have old : ∀ j : Nat, j < k → K (nameM j n t) := B.conn K k0 fun i x y m kx jn => by
      have hm := joins_mem.mp ⟨i, jn⟩
      obtain ⟨i', jn'⟩ := (joins_mem (rs := putAt rs p r) (x := x) (y := y) (l := m)).mpr (hm.imp (fun h => mem_putAt.mpr (.inr h)) fun h => mem_putAt.mpr (.inr h))
      exact hc i' x y m kx jn'
    by_cases e : j < k
    · exact old j e
    · have : j = k := by omega
      subst this
      have hm : (nameM a n t, nameM j n t, l) ∈ putAt rs p r ∨ (nameM j n t, nameM a n t, l) ∈ putAt rs p r := by
        rcases hr with h | h
        · exact .inr (mem_putAt.mpr (.inl h.symm))
        · exact .inl (mem_putAt.mpr (.inl h.symm))
      obtain ⟨i', jn'⟩ := joins_mem.mpr hm
      exact hc i' _ _ l (old a ha) jn'
end WR
namespace WR
/-- the villages on the way up from t, k steps -/
def upList (par : Int → Int) (k : Nat) (t : Int) : List Int := (List.range (k + 1)).map fun (j : Nat) => up par j t
section
variable {n : Nat} {rs : List Road} {s t : Int} {par : Int → Int} {idx : Int → Nat} {D : Int → Int} {rk : Int → Nat}
end
end WR
namespace WR
/-! ### the sides of a road -/
/-- one comes from s to it without the road at i -/
inductive Clo (rs : List Road) (i : Nat) (s : Int) : Int → Prop where
  | refl : Clo rs i s s
  | step {x y l : Int} {j : Nat} : Clo rs i s x → j ≠ i → Joins rs j x y l → Clo rs i s y
theorem Clo.trans {rs : List Road} {i : Nat} {s x y : Int} (h : Clo rs i s x) (g : Clo rs i x y) : Clo rs i s y := by
  induction g with
  | refl => exact h
  | step _ n j ih => exact ih.step n j
theorem Clo.head {rs : List Road} {i j : Nat} {s x l : Int} (n : j ≠ i) (h : Joins rs j s x l) : Clo rs i s x := Clo.refl.step n h
theorem Clo.symm {rs : List Road} {i : Nat} {s x : Int} (h : Clo rs i s x) : Clo rs i x s := by
  induction h with
  | refl => exact .refl
  | step _ n j ih => exact (Clo.head n j.symm).trans ih
theorem Clo.inV {n : Nat} {rs : List Road} {i : Nat} {s x : Int} (R : Roads n rs) (hs : InV n s) (h : Clo rs i s x) : InV n x := by
  induction h with
  | refl => exact hs
  | step _ _ j _ => exact (R.joins j).2.1
section
variable {n : Nat} {rs : List Road} {s : Int} {par : Int → Int} {idx : Int → Nat} {D : Int → Int} {rk : Int → Nat}
theorem Span.count_le (S : Span n rs s par idx D rk) : n ≤ rs.length + 1 := by
  have hs : s ∈ vil n := mem_vil.mpr S.ins
  have mem : ∀ x, x ∈ (vil n).erase s → InV n x ∧ x ≠ s := fun x hx => by
    have := (List.Nodup.mem_erase_iff (vil_nodup n)).mp hx
    exact ⟨mem_vil.mp this.2, this.1⟩
  have nd : (((vil n).erase s).map idx).Nodup := map_nodup_on ((vil_nodup n).erase s) fun x hx y hy e => S.inj (mem x hx).1 (mem y hy).1 (mem x hx).2 (mem y hy).2 e
  have sub : ∀ j ∈ ((vil n).erase s).map idx, j ∈ List.range rs.length := fun j hj => by
    obtain ⟨x, hx, rfl⟩ := List.mem_map.mp hj
    obtain ⟨l, jn, _⟩ := S.road x (mem x hx).1 (mem x hx).2
    exact List.mem_range.mpr jn.lt
  have := nodup_le nd sub
  rw [List.length_map, List.length_erase_of_mem hs, vil_length, List.length_range] at this
  omega
theorem Roads.erase (R : Roads n rs) (i : Nat) : Roads n (rs.eraseIdx i) := by
  have m : ∀ r ∈ rs.eraseIdx i, r ∈ rs := fun r h => List.mem_of_mem_eraseIdx h
  exact ⟨fun r h => R.lo r (m r h), fun r h => R.hi r (m r h), fun r h => R.ne r (m r h), fun r h => R.ps r (m r h)⟩
/-- a connected country has roads enough -/
theorem Conn.count (C : Conn n rs) (R : Roads n rs) (h0 : 0 < n) : n ≤ rs.length + 1 := by
  have hs : InV n 0 := InV.zero h0
  have T := (Tab.one rs 0).relaxN n
  obtain ⟨_, _, _, _, S, _⟩ := T.span (relax_all R C hs) hs (T.inv R hs)
  exact S.count_le
end
/-! ### a side, grown road by road -/
def grow1 (i : Nat) (f : List Int) (k : Nat) (r : Road) : List Int :=
  if k ≠ i ∧ (decide (r.1 ∈ f) ≠ decide (r.2.1 ∈ f)) then f ++ [if r.1 ∈ f then r.2.1 else r.1] else f
def growTo (rs : List Road) (i : Nat) : Nat → List Int → List Int
  | 0, f => f
  | k + 1, f => match rs[k]? with
    | some r => grow1 i (growTo rs i k f) k r
    | none => growTo rs i k f
def growN (rs : List Road) (i : Nat) : Nat → List Int → List Int
  | 0, f => f
  | m + 1, f => growTo rs i rs.length (growN rs i m f)
theorem growTo_succ {rs : List Road} {i k : Nat} {r : Road} (h : rs[k]? = some r) (f : List Int) : growTo rs i (k + 1) f = grow1 i (growTo rs i k f) k r := by
  show (match rs[k]? with | some r => grow1 i (growTo rs i k f) k r | none => growTo rs i k f) = _
  rw [h]
structure GI (rs : List Road) (i : Nat) (s : Int) (f : List Int) : Prop where
  st : s ∈ f
  nd : f.Nodup
  cl : ∀ x ∈ f, Clo rs i s x
theorem GI.begin (rs : List Road) (i : Nat) (s : Int) : GI rs i s [s] := ⟨by simp, by simp, fun x h => by simp at h; subst h; exact .refl⟩
theorem GI.one {rs : List Road} {i k : Nat} {s : Int} {f : List Int} {r : Road} (g : GI rs i s f) (h : rs[k]? = some r) : GI rs i s (grow1 i f k r) := by
  unfold grow1
  split
  · rename_i c
    obtain ⟨a, b, l⟩ := r
    by_cases ha : a ∈ f
    · have hb : b ∉ f := fun hb => by simp [ha, hb] at c
      rw [if_pos ha]
      exact ⟨List.mem_append_left _ g.st, nd_snoc g.nd hb, fun x hx => by
        rcases List.mem_append.mp hx with hx | hx
        · exact g.cl x hx
        · have : x = b := by simpa using hx
          subst this
          exact (g.cl a ha).step c.1 (.inl h)⟩
    · have hb : b ∈ f := Classical.byContradiction fun hb => by simp [ha, hb] at c
      rw [if_neg ha]
      exact ⟨List.mem_append_left _ g.st, nd_snoc g.nd ha, fun x hx => by
        rcases List.mem_append.mp hx with hx | hx
        · exact g.cl x hx
        · have : x = a := by simpa using hx
          subst this
          exact (g.cl b hb).step c.1 (.inr h)⟩
  · exact g
theorem GI.to {rs : List Road} {i : Nat} {s : Int} {f : List Int} (g : GI rs i s f) : ∀ k, GI rs i s (growTo rs i k f)
  | 0 => g
  | k + 1 => by
    cases h : rs[k]? with
    | none =>
      have : growTo rs i (k + 1) f = growTo rs i k f := by
        show (match rs[k]? with | some r => grow1 i (growTo rs i k f) k r | none => growTo rs i k f) = _
        rw [h]
      rw [this]; exact g.to k
    | some r => rw [growTo_succ h]; exact (g.to k).one h
theorem GI.N {rs : List Road} {i : Nat} {s : Int} {f : List Int} (g : GI rs i s f) : ∀ m, GI rs i s (growN rs i m f)
  | 0 => g
  | m + 1 => (g.N m).to _
theorem grow1_more (i : Nat) (f : List Int) (k : Nat) (r : Road) : ∃ more, grow1 i f k r = f ++ more := by
  unfold grow1
  split
  · exact ⟨_, rfl⟩
  · exact ⟨[], by simp⟩
theorem growTo_more (rs : List Road) (i : Nat) (f : List Int) (k d : Nat) : ∃ more, growTo rs i (k + d) f = growTo rs i k f ++ more := by
  induction d with
  | zero => exact ⟨[], by simp⟩
  | succ d ih =>
    obtain ⟨m, e⟩ := ih
    cases h : rs[k + d]? with
    | none =>
      refine ⟨m, ?_⟩
      show (match rs[k + d]? with | some r => grow1 i (growTo rs i (k + d) f) (k + d) r | none => growTo rs i (k + d) f) = _
      rw [h]; exact e
    | some r =>
      obtain ⟨m2, e2⟩ := grow1_more i (growTo rs i (k + d) f) (k + d) r
      refine ⟨m ++ m2, ?_⟩
      rw [show k + (d + 1) = k + d + 1 by omega, growTo_succ h, e2, e, List.append_assoc]
def ClosedF (rs : List Road) (i : Nat) (f : List Int) : Prop := ∀ j x y l, j ≠ i → Joins rs j x y l → x ∈ f → y ∈ f
theorem closed_of_len {rs : List Road} {i : Nat} {f : List Int} (h : (growTo rs i rs.length f).length = f.length) : ClosedF rs i f := by
  have st : ∀ k, k ≤ rs.length → growTo rs i k f = f := fun k hk => by
    obtain ⟨m, e⟩ := growTo_more rs i f 0 k
    obtain ⟨m2, e2⟩ := growTo_more rs i f k (rs.length - k)
    rw [show k + (rs.length - k) = rs.length by omega] at e2
    rw [Nat.zero_add] at e
    have e0 : growTo rs i 0 f = f := rfl
    rw [e0] at e
    rw [e2, e, List.length_append, List.length_append] at h
    have : m = [] := List.eq_nil_of_length_eq_zero (by omega)
    rw [e, this, List.append_nil]
  intro j x y l nj jn hx
  have hlt := jn.lt
  obtain ⟨r, hr⟩ : ∃ r, rs[j]? = some r := ⟨rs[j], List.getElem?_eq_getElem hlt⟩
  have e := growTo_succ (i := i) hr f
  rw [st j (by omega), st (j + 1) (by omega)] at e
  unfold grow1 at e
  split at e
  · exfalso
    have := congrArg List.length e
    rw [List.length_append] at this
    simp at this
  · rename_i c
    refine Classical.byContradiction fun hy => c ⟨nj, ?_⟩
    rcases jn with q | q
    · rw [hr] at q; cases q
      simp [hx, hy]
    · rw [hr] at q; cases q
      simp [hx, hy]
theorem growTo_closed {rs : List Road} {i : Nat} {f : List Int} (c : ClosedF rs i f) : ∀ k, growTo rs i k f = f
  | 0 => rfl
  | k + 1 => by
    have ih := growTo_closed c k
    cases h : rs[k]? with
    | none =>
      show (match rs[k]? with | some r => grow1 i (growTo rs i k f) k r | none => growTo rs i k f) = _
      rw [h]; exact ih
    | some r =>
      rw [growTo_succ h, ih]
      unfold grow1
      rw [if_neg]
      rintro ⟨ni, ne⟩
      apply ne
      obtain ⟨a, b, l⟩ := r
      have h1 : a ∈ f → b ∈ f := fun z => c k a b l ni (.inl h) z
      have h2 : b ∈ f → a ∈ f := fun z => c k b a l ni (.inr h) z
      by_cases ha : a ∈ f
      · simp [ha, h1 ha]
      · have hb : b ∉ f := fun z => ha (h2 z)
        simp [ha, hb]
theorem grown {n : Nat} {rs : List Road} {i : Nat} {s : Int} (R : Roads n rs) (hs : InV n s) : ClosedF rs i (growN rs i n [s]) := by
  have key : ∀ m, ClosedF rs i (growN rs i m [s]) ∨ m + 1 ≤ (growN rs i m [s]).length := by
    intro m
    induction m with
    | zero => exact .inr (by simp [growN])
    | succ m ih =>
      rcases ih with c | h
      · left
        show ClosedF rs i (growTo rs i rs.length (growN rs i m [s]))
        rw [growTo_closed c]; exact c
      · obtain ⟨mo, e⟩ := growTo_more rs i (growN rs i m [s]) 0 rs.length
        rw [Nat.zero_add] at e
        have e0 : growTo rs i 0 (growN rs i m [s]) = growN rs i m [s] := rfl
        rw [e0] at e
        by_cases q : mo = []
        · left
          have c := closed_of_len (rs := rs) (i := i) (f := growN rs i m [s]) (by rw [e, q, List.append_nil])
          show ClosedF rs i (growTo rs i rs.length (growN rs i m [s]))
          rw [growTo_closed c]; exact c
        · right
          show m + 1 + 1 ≤ (growTo rs i rs.length (growN rs i m [s])).length
          rw [e, List.length_append]
          have := List.length_pos_iff.mpr q
          omega
  rcases key n with c | h
  · exact c
  · exfalso
    have g := (GI.begin rs i s).N n
    have := nodup_le g.nd (m := vil n) fun x hx => mem_vil.mpr ((g.cl x hx).inV R hs)
    rw [vil_length] at this
    omega
end WR
namespace WR
/-! ### sums over the villages -/
/-! ### walks and medians -/
/-- the walks to x -/
def walksM (n : Nat) (rs : List Road) (pp : Int → Int) (x : Int) : Int := ((vil n).map fun y => pp y * far n rs x y).sum
def totalM (n : Nat) (pp : Int → Int) : Int := ((vil n).map pp).sum
/-- no road at u has more than half beyond -/
def EvenM (n : Nat) (rs : List Road) (pp : Int → Int) (u : Int) : Prop := ∀ i v l, Joins rs i u v l → 2 * ((growN rs i n [v]).map pp).sum ≤ totalM n pp
section
variable {n : Nat} {rs : List Road} {pp : Int → Int}
end
/-! ### the first two that are farthest apart -/
def Before (x y a b : Int) : Prop := x < a ∨ (x = a ∧ y < b)
/-- of the pairs x < y ahead of (i, j): the first greatest -/
def Best (F : Int → Int → Int) (n : Nat) (i j : Int) (a b d : Int) : Prop :=
  (a = 0 ∧ b = 0 ∧ d = 0 ∧ ∀ (x y : Int), 0 ≤ x → x < y → y < n → ¬ Before x y i j) ∨
  (0 ≤ a ∧ a < b ∧ b < n ∧ Before a b i j ∧ d = F a b ∧ 0 < d ∧ ∀ (x y : Int), 0 ≤ x → x < y → y < n → Before x y i j → F x y ≤ d ∧ (Before x y a b → F x y < d))
theorem Best.step {F : Int → Int → Int} {n : Nat} {i j a b d : Int} (B : Best F n i j a b d) (pos : ∀ (x y : Int), 0 ≤ x → x < y → y < n → 0 < F x y) (i0 : 0 ≤ i) (ij : i < j) (jn : j < n) :
    (F i j > d → Best F n i (j + 1) i j (F i j)) ∧ (¬ F i j > d → Best F n i (j + 1) a b d) := by
  have nx : ∀ (x y : Int), Before x y i (j + 1) → Before x y i j ∨ (x = i ∧ y = j) := fun x y h => by unfold Before at *; omega
  constructor
  · intro h
    refine .inr ⟨i0, ij, jn, by unfold Before; omega, rfl, pos i j i0 ij jn, fun x y h1 h2 h3 h4 => ?_⟩
    rcases nx x y h4 with q | ⟨rfl, rfl⟩
    · rcases B with ⟨_, _, _, no⟩ | ⟨_, _, _, _, _, _, al⟩
      · exact absurd q (no x y h1 h2 h3)
      · have := (al x y h1 h2 h3 q).1
        exact ⟨by omega, fun _ => by omega⟩
    · exact ⟨Int.le_refl _, fun z => by unfold Before at z; omega⟩
  · intro h
    rcases B with ⟨rfl, rfl, rfl, no⟩ | ⟨a0, ab, bn, bf, rfl, dp, al⟩
    · exact absurd (pos i j i0 ij jn) (by omega)
    · refine .inr ⟨a0, ab, bn, by unfold Before at *; omega, rfl, dp, fun x y h1 h2 h3 h4 => ?_⟩
      rcases nx x y h4 with q | ⟨rfl, rfl⟩
      · exact al x y h1 h2 h3 q
      · exact ⟨by omega, fun z => by unfold Before at *; omega⟩
/-- the answer: all pairs are seen -/
def Top (F : Int → Int → Int) (n : Nat) (a b d : Int) : Prop :=
  (n = 1 ∧ a = 0 ∧ b = 0 ∧ d = 0) ∨ (0 ≤ a ∧ a < b ∧ b < n ∧ d = F a b ∧ 0 < d ∧ ∀ (x y : Int), 0 ≤ x → x < y → y < n → F x y ≤ d ∧ (Before x y a b → F x y < d))
end WR
namespace WR
/-! ### rising lists -/
/-- the villages at which P holds, rising -/
def those (P : Nat → Bool) (n : Nat) : List Int := ((List.range n).filter P).map fun (k : Nat) => (k : Int)
/-! ### what is reached without a road -/
/-! ### a road moved -/
section
variable {n : Nat} {rs : List Road} {i : Nat} {a b l x y : Int}
end
/-! ### two trees joined -/
def shiftR (n : Nat) (r : Road) : Road := ((n : Int) + r.1, (n : Int) + r.2.1, r.2.2)
def joinR (n : Nat) (rs : List Road) (v l : Int) (rs2 : List Road) : List Road := rs ++ [(v, (n : Int), l)] ++ rs2.map (shiftR n)
end WR
namespace WR
/-! ### who lies below whom -/
/-- one comes up from it to c -/
inductive Bel (s : Int) (par : Int → Int) (c : Int) : Int → Prop where
  | refl : Bel s par c c
  | step {x : Int} : x ≠ s → Bel s par c (par x) → Bel s par c x
section
variable {n : Nat} {rs : List Road} {s : Int} {par : Int → Int} {idx : Int → Nat} {D : Int → Int} {rk : Int → Nat}
theorem Bel.trans {a b c : Int} (h : Bel s par a b) (g : Bel s par b c) : Bel s par a c := by
  induction g with
  | refl => exact h
  | step nx _ ih => exact .step nx ih
end
/-! ### how often a road is gone -/
/-- whether the road at i joins the two -/
def isRoad (rs : List Road) (i : Nat) (u v : Int) : Bool := match rs[i]? with
  | some r => (decide (r.1 = u) && decide (r.2.1 = v)) || (decide (r.1 = v) && decide (r.2.1 = u))
  | none => false
/-- how often the road at i is gone on a walk from u -/
def cnt (rs : List Road) (i : Nat) : Int → List Int → Nat
  | _, [] => 0
  | u, v :: r => (if isRoad rs i u v = true then 1 else 0) + cnt rs i v r
/-- where a walk from u ends -/
def lastW : Int → List Int → Int
  | u, [] => u
  | _, v :: r => lastW v r
/-- a walk from neighbour to neighbour -/
def Walk (rs : List Road) : Int → List Int → Prop
  | _, [] => True
  | u, v :: r => (∃ i l, Joins rs i u v l) ∧ Walk rs v r
end WR
namespace WR
open Classical
/-! ### there and back -/
def backM (rs : List Road) : Nat → Int → List Int → List Int
  | 0, v, _ => [v]
  | f + 1, v, cl => v :: (stepsM rs v).flatMap fun p => if p.1 ∈ cl then [] else backM rs f p.1 [v] ++ [v]
/-- so deep it goes -/
def Fits (rs : List Road) : Nat → Int → List Int → Prop
  | 0, _, _ => False
  | f + 1, v, cl => ∀ p ∈ stepsM rs v, p.1 ∉ cl → Fits rs f p.1 [v]
section
variable {n : Nat} {rs : List Road} {s : Int} {par : Int → Int} {idx : Int → Nat} {D : Int → Int} {rk : Int → Nat}
/-- a tour of all below t -/
def TourC (n : Nat) (rs : List Road) (s : Int) (par : Int → Int) (idx : Int → Nat) (f : Nat) (t : Int) : Prop := ∃ B, backM rs f t [par t] = t :: B ∧ lastW t B = t ∧ Walk rs t B ∧
  (∀ x, InV n x → x ≠ s → cnt rs (idx x) t B = if Bel s par t x ∧ x ≠ t then 2 else 0) ∧ ∀ y, Bel s par t y → InV n y → y ∈ t :: B
/-- a neighbour that is not above is just below -/
theorem Span.below (S : Span n rs s par idx D rk) (W : Tree n rs) {v t l : Int} (hm : (t, l) ∈ stepsM rs v) : InV n v ∧ InV n t ∧ ((t ≠ s ∧ par t = v) ∨ (v ≠ s ∧ par v = t)) := by
  obtain ⟨i, j⟩ := mem_stepsM.mp hm
  obtain ⟨hv, ht, _⟩ := W.roads.joins j
  obtain ⟨z, hz, nz, e⟩ := S.surj W.count j.lt
  obtain ⟨m, jz, _⟩ := S.road z hz nz
  rw [e] at jz
  refine ⟨hv, ht, ?_⟩
  rcases j.ends jz with ⟨a, b⟩ | ⟨a, b⟩
  · subst b; exact .inl ⟨nz, a⟩
  · subst b; exact .inr ⟨nz, a⟩
end
end WR
namespace WR
open Classical
section
variable {n : Nat} {rs : List Road} {s o : Int} {par : Int → Int} {idx : Int → Nat} {D : Int → Int} {rk : Int → Nat}
/-- the errand as far as the m-th village of the way -/
def errM (rs : List Road) (f : Nat) (ws : List Int) (m : Nat) : List Int := (ws.take m).flatMap fun v => backM rs f v ws
end
end WR
namespace WR
/-! ### how often a row of villages goes each road, and how long it is -/
def cntTo (rs : List Road) (ws : List Int) (i k : Nat) : Nat := ((List.range k).filter fun j => isRoad rs i (ws.getD j 0) (ws.getD (j + 1) 0)).length
def WalkAt (rs : List Road) (ws : List Int) : Prop := ∀ j, j + 1 < ws.length → ∃ i l, Joins rs i (ws.getD j 0) (ws.getD (j + 1) 0) l
/-- up to the k-th step -/
def WalkTo (rs : List Road) (ws : List Int) (k : Nat) : Prop := ∀ j, j < k → ∃ i l, Joins rs i (ws.getD j 0) (ws.getD (j + 1) 0) l
theorem WalkTo.at {rs : List Road} {ws : List Int} {k : Nat} (h : WalkTo rs ws k) (e : ws.length ≤ k + 1) : WalkAt rs ws := fun j hj => h j (by omega)
def goneM (rs : List Road) (ws : List Int) (k : Nat) : List Int := (List.range rs.length).map fun (i : Nat) => (cntTo rs ws i k : Int)
section
variable {n : Nat} {rs : List Road} {ws : List Int} {k j : Nat} {l : Int}
def longTo (rs : List Road) (ws : List Int) (k : Nat) : Int := ((List.range rs.length).map fun (i : Nat) => (cntTo rs ws i k : Int) * (rs.getD i (0, 0, 0)).2.2).sum
end
end WR
namespace L2
open PySem PySem.Spec PyProof.Rows
/-! ### a comprehension -/
/-- the context of its block -/
abbrev cxComp (X : Cx) (N : List Str) (sc : Scope) (cl : List (Str × Addr)) (C : Addr) (s₀ : Shared) (H₀ : Hp) (ex : List Addr) (pn : List (Addr × Obj)) : Cx where
  prog := X.prog
  w := X.w
  K := X.K
  mg := X.mg
  base := X.base
  A := X.A
  N := N
  s₀ := s₀
  H₀ := H₀
  env := compEnvC sc cl C X.env
  outer := X.stack
  stack := X.stack
  ex := ex
  fn := fun _ => false
  calm := X.calm
  pn := pn
  xe := X.xe

section
variable {prog : Program} {w : World} {A : Around} {R : Result → Shared → Prop} {s : Shared}
theorem compLoop_go {elt target iter : Expr} {ifs : List Expr} {scope : Scope} {pos : Pos} {it acc : Value} {env : Env} (I : Nat → Shared → Prop)
    (turn : ∀ n s, I n s → wpAny (model prog w) A (pyNext it) (fun r s₁ => match r with
      | none => R (.ok .next) s₁
      | some v => wpAny (model prog w) A (letOwnedTupleGo target it v) (fun _ s₁' => wpAny (model prog w) A (assign target env v) (fun _ s₂ =>
          wpAny (model prog w) A (forIn ifs true fun c r => if r = true then do let ok ← isTrue c env (eval c env); pure (ForInStep.yield ok) else pure (ForInStep.yield r)) (fun ok s₃ =>
            if ok = true then wpAny (model prog w) A (eval elt env) (fun x s₄ =>
              wpAny (model prog w) A (call (.builtin "list.append") [acc, x]) (fun _ s₅ => ∃ m, m < n ∧ I m s₅) (fun _ _ => False) s₄) (fun _ _ => False) s₃
            else ∃ m, m < n ∧ I m s₃) (fun _ _ => False) s₂) (fun _ _ => False) s₁') (fun _ _ => False) s₁) (fun _ _ => False) s)
    (n : Nat) (h : I n s) :
    codeAny (model prog w) A (.compLoop (.ListComp elt [⟨target, iter, ifs, 0⟩] scope pos) 0 it acc env) R s := by
  refine codeAny_loop rfl I (fun n s hI => ?_) n h
  show wpAny _ A ((compTurn (.ListComp elt [⟨target, iter, ifs, 0⟩] scope pos) 0 it acc env).onRaise (fun x => do noteFrame x env; theTreesLotGoes x)) _ _ s
  refine wpAny_noted ?_
  rw [compTurn_list]
  refine wpAny_bind (wpAny_standAt (wpAny_bind (wpAny_mono (turn n s hI) (fun r s₁ h₁ => ?_) fun _ _ h' => False.elim h')))
  cases r with
  | none => exact wpAny_pure h₁
  | some v =>
    refine wpAny_bind (wpAny_mono h₁ (fun _ s₁' h₁' => ?_) fun _ _ h' => False.elim h')
    refine wpAny_bind (wpAny_mono h₁' (fun _ s₂ h₂ => wpAny_bind (wpAny_mono h₂ (fun ok s₃ h₃ => ?_) fun _ _ h' => False.elim h')) fun _ _ h' => False.elim h')
    cases ok with
    | false => exact wpAny_pure ⟨rfl, h₃⟩
    | true =>
      exact wpAny_bind (wpAny_bind (wpAny_mono h₃ (fun x s₄ h₄ => wpAny_bind (wpAny_mono h₄ (fun _ s₅ h₅ => wpAny_pure (wpAny_pure ⟨rfl, h₅⟩)) fun _ _ h' => False.elim h')) fun _ _ h' => False.elim h'))
end

/-- the tests of a comprehension: none, or one -/
def PIfs (X : Cx) (ifs : List Expr) (t : TT) : Prop :=
  ∀ (pins : List (Addr × Obj)) (s : Shared) (σ : St) (H : Hp) (Q : Bool → Hp → Prop), Inv X pins σ H s → t σ H Q →
    wpAny (model X.prog X.w) X.A (forIn ifs true fun c r => if r = true then do let ok ← isTrue c X.env (eval c X.env); pure (ForInStep.yield ok) else pure (ForInStep.yield r)) (TP X pins σ Q) X.xe s
def tNoIf : TT := fun _ H Q => Q true H
theorem pf_none {X : Cx} : PIfs X [] tNoIf := fun _ _ _ H _ I h => wpAny_tests_nil ⟨H, I, h⟩
/-- what the block must have: names and cells -/
structure CompOk (X : Cx) (N : List Str) (sc : Scope) (cl : List (Str × Addr)) (fr : List (Nat × Nat)) : Prop where
  clos : closureFor sc X.env = pure cl
  kind : sc.kind = .function
  nocell : ∀ x ∈ sc.names, x.2 ≠ .cell
  names : ∀ x ∈ sc.names, x.2 = .local → sc.names.lookup x.1 = some .local
  sub : ∀ x c, cl.lookup x = some c → X.env.cells.lookup x = some c
  has : ∀ x, ((relabel sc X.env).names.lookup x = some .cell ∨ (relabel sc X.env).names.lookup x = some .free) → ∃ c, cl.lookup x = some c
  /-- the names that it reads of the def: (place here, place there) -/
  frees : ∀ p ∈ fr, ∃ x, N[p.1]? = some x ∧ X.N[p.2]? = some x ∧ (X.env.scope.names.lookup x = some .cell ∨ X.env.scope.names.lookup x = some .free) ∧ ((relabel sc X.env).names.lookup x = some .cell ∨ (relabel sc X.env).names.lookup x = some .free)
/-- the values at the block's entry -/
def startC (n : Nat) (fr : List (Nat × Nat)) (σ : St) : St := (List.range n).map fun i => match fr.find? (fun p => p.1 == i) with | some p => (σ[p.2]?).join | none => none
/-- [elt for tg in iter if ..]: W the invariant by the turn, a measure, the block's names, the items so far and the heap -/
def tComp (n : Nat) (fr : List (Nat × Nat)) (wi : TI) (g : TG) (tf : TT) (te : TE) : TE := fun σ H Q => wi σ H fun J H1 => ∀ acc, H1 acc = none →
  ∃ W : Nat → Nat → St → List V → Hp → Prop, (∃ m, W 0 m (startC n fr σ) [] (upd H1 acc (.lst []))) ∧ ∀ i m τ ys H2, W i m τ ys H2 →
    H2 acc = some (.lst ys) ∧ ((J.stop i H2 ∧ Q (.ref acc) H2) ∨ (J.go i H2 ∧ ∀ x H3, J.yld i H2 x H3 → g x τ H3 fun τ4 H4 => tf τ4 H4 fun b H5 =>
      if b = true then te τ4 H5 fun v H6 => H6 acc = some (.lst ys) ∧ ys.length < sizeLine ∧ ∃ m', m' < m ∧ W (i + 1) m' τ4 (ys ++ [v]) (upd H6 acc (.lst (ys ++ [v])))
      else ∃ m', m' < m ∧ W (i + 1) m' τ4 ys H5))

section
variable {X : Cx} {N : List Str} {sc : Scope} {cl : List (Str × Addr)} {fr : List (Nat × Nat)} {pins : List (Addr × Obj)} {σ : St} {H : Hp} {s : Shared}
theorem comp_ok {fp : List Addr} (I : Inv X pins σ H s) (K : CompOk X N sc cl fr) (f : ∀ b ∈ fp, FpOk X pins H b) (ho : ∀ b ∈ fp, ∃ o, s.heap.get? b = some o) :
    (cxComp X N sc cl s.heap.objs.size s H fp (X.pn ++ pins)).Ok where
  mod := I.mod
  kind := K.kind
  glob := I.ok.glob
  blt := I.ok.blt
  above := Nat.le_refl _
  inj := fun x y c h1 h2 => I.ok.inj x y c (K.sub x c h1) (K.sub y c h2)
  has := fun x h => K.has x h
  cab := fun x c h => absurd h (by simp)
  hd := I.ok.hd
  frames := I.ok.frames
  stk := .inl rfl
  exf := fun b hb => ⟨fun z => by
      obtain ⟨o, ho⟩ := ho b hb
      have z : b = s.heap.objs.size := z
      exact absurd (Heap.lt_size ho) (by rw [z]; exact Nat.lt_irrefl _), fun x c h => (f b hb).2.2.2.2.1 x c (K.sub x c h)⟩
  bs := I.bs
  bsz := Nat.le_trans I.ok.bsz I.sz
  noex := fun b o e hb => by
    rcases (f b hb).2.2.2.1 with z | z
    · exact I.ok.noex b o e z
    · exact absurd (Nat.lt_of_lt_of_le (Heap.lt_size e) (Nat.le_trans I.ok.bsz z)) (Nat.lt_irrefl _)
  exfs := fun b hb z => by
    rcases List.mem_cons.mp (I.stkSub b z) with q | q
    · exact (f b hb).2.1 q
    · exact (f b hb).2.2.1 q
  funs := I.stack
  frf := I.stkFree

theorem startC_get {n i : Nat} {v : V} (h : (startC n fr σ)[i]? = some (some v)) : ∃ p ∈ fr, p.1 = i ∧ σ[p.2]? = some (some v) := by
  unfold startC at h
  rw [List.getElem?_map] at h
  cases q : (List.range n)[i]? with
  | none => rw [q] at h; cases h
  | some j =>
    rw [q] at h
    have hj : j = i := by
      obtain ⟨hlt, e⟩ := List.getElem?_eq_some_iff.mp q
      rw [List.getElem_range] at e
      exact e.symm
    subst hj
    simp only [Option.map_some, Option.some.injEq] at h
    cases r : fr.find? (fun p => p.1 == j) with
    | none => rw [r] at h; cases h
    | some p =>
      rw [r] at h
      have h : (σ[p.2]?).join = some v := h
      refine ⟨p, List.mem_of_find?_eq_some r, by simpa using List.find?_some r, ?_⟩
      cases t : σ[p.2]? with
      | none => rw [t] at h; cases h
      | some o =>
        rw [t] at h
        have h : o = some v := h
        rw [h]

theorem comp_start {fp : List Addr} {h' : Heap} {t' : Nat} {m : Str → Option Value} (I : Inv X pins σ H s) (K : CompOk X N sc cl fr) (f : ∀ b ∈ fp, FpOk X pins H b) (ho : ∀ b ∈ fp, ∃ o, s.heap.get? b = some o)
    (hn : h'.Ns s.heap.objs.size m) (hk : ∀ b o, s.heap.get? b = some o → h'.get? b = some o) :
    Inv (cxComp X N sc cl s.heap.objs.size s H fp (X.pn ++ pins)) [] (startC N.length fr σ) H { s with heap := h', toks := t' } := by
  refine ⟨comp_ok I K f ho, rfl, I.bare, Un.kept hk, ⟨m, hn, fun i x v e1 e2 e3 => ?_⟩, fun x c h => ?_, I.hok.fresh (Nat.le_refl _), fun x c h => I.freeC x c (K.sub x c h), fun p hp => ?_, I.hok.kept hk, by simp [startC]⟩
  · obtain ⟨p, hp, rfl, hv⟩ := startC_get e2
    obtain ⟨y, h1, h2, h3, h4⟩ := K.frees p hp
    have e1 : N[p.1]? = some x := e1
    rw [e1] at h1; cases h1
    obtain ⟨m0, hm0, hl⟩ := I.loc
    have vis : Vis X.env.scope x := by
      rcases h3 with z | z
      · exact .inr (.inl z)
      · exact .inr (.inr z)
    obtain ⟨u, ru, l⟩ := hl p.2 x v h2 hv vis
    refine ⟨u, ru, ?_⟩
    rcases l with ⟨z, _⟩ | ⟨_, c, hc, hcell⟩
    · exfalso
      have z : X.env.scope.names.lookup x = some .local := z
      rcases h3 with q | q <;> (rw [z] at q; cases q)
    · obtain ⟨c', hc'⟩ := K.has x h4
      have := K.sub x c' hc'
      rw [hc] at this; cases this
      obtain ⟨o, ho', hd⟩ := hcell
      exact .inr ⟨h4, c, hc', o, hk _ _ ho', hd⟩
  · obtain ⟨v, o, ho', hd⟩ := I.cell x c (K.sub x c h)
    exact ⟨v, o, hk _ _ ho', hd⟩
  · have hp : p ∈ X.pn ++ pins := by simpa using hp
    obtain ⟨e, n, ne, nf, d⟩ := I.pin p hp
    refine ⟨hk _ _ e, n, fun z => ?_, fun z => ?_, d⟩
    · have z : p.1 = s.heap.objs.size := z
      exact absurd (Heap.lt_size e) (by rw [z]; exact Nat.lt_irrefl _)
    · rcases List.mem_cons.mp (I.stkSub _ z) with q | q
      · exact ne q
      · exact nf q

/-- behind the block -/
theorem comp_back {fp : List Addr} {τ : St} {H' : Hp} {s' : Shared} {h' : Heap} (I : Inv X pins σ H s) (f : ∀ b ∈ fp, FpOk X pins H b)
    (J : Inv (cxComp X N sc cl s.heap.objs.size s H fp (X.pn ++ pins)) [] τ H' s') (hs : Heap.SameBut s.heap.objs.size s'.heap h') :
    Inv X pins σ H' { s' with heap := h' } := by
  have hlt : ∀ b o, s.heap.get? b = some o → b ≠ s.heap.objs.size := fun b o e => Nat.ne_of_lt (Heap.lt_size e)
  have u := J.base
  refine I.call' (ch := fp) J.os ⟨fun b o e n hb hx => ?_, fun b o e n hb hx => ?_, u.free, fun b o e hx => ?_, u.tups, u.frzs, u.tbls⟩ (fun a o e => ?_) J.bare fun b hb => ⟨(f b hb).2.2.2.1, (f b hb).2.1, (f b hb).2.2.2.2.1, (f b hb).2.2.2.2.2⟩
  · exact (hs.2 b (hlt b o e)).trans (u.keep b o e n hb hx)
  · obtain ⟨sl, q⟩ := u.slot b o e n hb hx
    exact ⟨sl, (hs.2 b (hlt b o e)).trans q⟩
  · obtain ⟨o', q⟩ := u.there b o e hx
    exact ⟨o', (hs.2 b (hlt b o e)).trans q⟩
  · have hC : H' s.heap.objs.size = none := J.free
    refine (J.hok a o e).stay (fun b v hb q => (hs.2 b ?_).trans q) (fun _ q => q) fun _ _ q => q
    intro z
    rcases hb with hb | hb
    · rw [← hb, z, hC] at e; cases e
    · rw [z, hC] at hb; cases hb

/-- the block itself: from the iterator to the end, the post is told of the block's own state -/
theorem comp_run {elt tg iter : Expr} {ifs : List Expr} {pos : Pos} {g : TG} {tf : TT} {te : TE} {Q : VK} {RR : Value → Addr → Result → Shared → Prop} {itv : Value} (hx : X.xe = fun _ _ => False) (hc : X.calm = true)
    (K : CompOk X N sc cl fr)
    (hb : ∀ C s₀ H₀ ex pn, PG (cxComp X N sc cl C s₀ H₀ ex pn) tg g ∧ PIfs (cxComp X N sc cl C s₀ H₀ ex pn) ifs tf ∧ PE (cxComp X N sc cl C s₀ H₀ ex pn) elt te)
    (h2 : PIE X pins σ tg (fun J H1 => ∀ acc, H1 acc = none →
      ∃ W : Nat → Nat → St → List V → Hp → Prop, (∃ m, W 0 m (startC N.length fr σ) [] (upd H1 acc (.lst []))) ∧ ∀ i m τ ys H2, W i m τ ys H2 →
        H2 acc = some (.lst ys) ∧ ((J.stop i H2 ∧ Q (.ref acc) H2) ∨ (J.go i H2 ∧ ∀ x H3, J.yld i H2 x H3 → g x τ H3 fun τ4 H4 => tf τ4 H4 fun b H5 =>
          if b = true then te τ4 H5 fun v H6 => H6 acc = some (.lst ys) ∧ ys.length < sizeLine ∧ ∃ m', m' < m ∧ W (i + 1) m' τ4 (ys ++ [v]) (upd H6 acc (.lst (ys ++ [v])))
          else ∃ m', m' < m ∧ W (i + 1) m' τ4 ys H5))) itv s)
    (hR : ∀ (acc : Addr) (s3 : Shared) (H3 H' : Hp) (fp : List Addr) (τ : St) (s' : Shared), Inv X pins σ H3 s3 → (∀ b ∈ fp, FpOk X pins H3 b) → Inv (cxComp X N sc cl s3.heap.objs.size s3 H3 fp (X.pn ++ pins)) [] τ H' s' → Q (.ref acc) H' → RR (.ref acc) s3.heap.objs.size (.ok .next) s') :
    wpAny (model X.prog X.w) X.A (newList []) (fun acc s₃ => wpAny (model X.prog X.w) X.A (newFunctionEnv sc X.env.globals cl [] X.env.qual none .none (some X.env)) (fun cenv s₄ =>
      codeAny (model X.prog X.w) X.A (.compStart (.ListComp elt [⟨tg, iter, ifs, 0⟩] sc pos) 0 itv acc { cenv with scope := relabel sc X.env }) (RR acc cenv.locals) s₄) X.xe s₃) X.xe s := by
  obtain ⟨it, fp, tn, J, H1, e, I1, T, st1, f1, hw⟩ := h2
  subst e
  have hfr := I1.hok.fresh (Nat.le_refl _)
  obtain ⟨W, ⟨m0, w0⟩, turn⟩ := hw s.heap.objs.size hfr
  refine wpAny_newObj_type ?_
  have I3 : Inv X pins σ (upd H1 s.heap.objs.size (.lst [])) { s with heap := s.heap.push { cls := .type "list", data := .seq ([] : List Value).toArray } } := I1.lnew (t' := s.toks) (its := []) .nil (Nat.zero_le _)
  have fpne : ∀ b ∈ fp, b ≠ s.heap.objs.size := fun b hb => by
    obtain ⟨o, ho, _⟩ := T.obj _ _ st1 b hb
    exact Nat.ne_of_lt (Heap.lt_size ho)
  have f3 : ∀ b ∈ fp, FpOk X pins (upd H1 s.heap.objs.size (.lst [])) b := fun b hb => ⟨by rw [upd_ne (fpne b hb)]; exact (f1 b hb).1, (f1 b hb).2⟩
  generalize hs3 : ({ s with heap := s.heap.push { cls := .type "list", data := .seq ([] : List Value).toArray } } : Shared) = s3 at I3
  have st3 : tn 0 s3.heap := T.keep _ _ _ st1 fun b _ o e => by rw [← hs3]; exact Heap.get?_push_of_some _ e
  have ho3 : ∀ b ∈ fp, ∃ o, s3.heap.get? b = some o := fun b hb => by obtain ⟨o, ho, _⟩ := T.obj _ _ st3 b hb; exact ⟨o, ho⟩
  generalize hacc : s.heap.objs.size = acc at *
  refine wpAny_newFunctionEnv K.nocell (by intro y hy; simp at hy) (fun h₁ hns₁ hsb₁ => ?_) K.kind
  have hk : ∀ b o, s3.heap.get? b = some o → h₁.get? b = some o := fun b o e => (hsb₁.2 b (Nat.ne_of_lt (Heap.lt_size e))).trans (Heap.get?_push_of_some _ e)
  have I4 := comp_start (t' := s3.toks + ([] : List (Str × Value)).length) I3 K f3 ho3 hns₁ hk
  have st4 : tn 0 h₁ := T.keep _ _ _ st3 fun b _ o e => hk b o e
  have stat : ∀ {H' : Hp} {b : Addr}, b ∈ fp → H' b = none → FpOk (cxComp X N sc cl s3.heap.objs.size s3 (upd H1 acc (.lst [])) fp (X.pn ++ pins)) [] H' b := fun {H' b} hb hn => by
    refine ⟨hn, fun z => ?_, fun z => ?_, .inl hb, fun x c h => (f3 b hb).2.2.2.2.1 x c (K.sub x c h), fun p hp => (f3 b hb).2.2.2.2.2 p (by simpa using hp)⟩
    · obtain ⟨o, ho⟩ := ho3 b hb
      have z : b = s3.heap.objs.size := z
      exact absurd (Heap.lt_size ho) (by rw [z]; exact Nat.lt_irrefl _)
    · rcases List.mem_cons.mp (I3.stkSub b z) with q | q
      · exact (f3 b hb).2.1 q
      · exact (f3 b hb).2.2.1 q
  obtain ⟨hg, hf, he⟩ := hb s3.heap.objs.size s3 (upd H1 acc (.lst [])) fp (X.pn ++ pins)
  have loop : ∀ s₄ : Shared, s₄ = { s3 with heap := h₁, toks := s3.toks + ([] : List (Str × Value)).length } →
      codeAny (model X.prog X.w) X.A (.compLoop (.ListComp elt [⟨tg, iter, ifs, 0⟩] sc pos) 0 (.ref it) (.ref acc) (compEnvC sc cl s3.heap.objs.size X.env)) (RR (.ref acc) s3.heap.objs.size) s₄ := by
    rintro s₄ rfl
    refine compLoop_go (fun n s' => ∃ i τ ys H', Inv (cxComp X N sc cl s3.heap.objs.size s3 (upd H1 acc (.lst [])) fp (X.pn ++ pins)) [] τ H' s' ∧ tn i s'.heap ∧ (∀ b ∈ fp, H' b = none) ∧ W i n τ ys H') ?_ m0
      ⟨0, _, [], _, I4, st4, fun b hb => (f3 b hb).1, w0⟩
    rintro n s5 ⟨i, τ, ys, H5, I5, st5, fr5, w5⟩
    obtain ⟨hacc5, tr⟩ := turn i n τ ys H5 w5
    rcases tr with ⟨stop, q⟩ | ⟨go, step⟩
    · refine thn (T.done (cxComp X N sc cl s3.heap.objs.size s3 (upd H1 acc (.lst [])) fp (X.pn ++ pins)) rfl rfl rfl hc i [] s5 τ H5 _ I5 (fun b hb => stat hb (fr5 b hb)) st5 stop) fun r s6 ⟨hr, I6⟩ => ?_
      subst hr
      exact hR acc s3 _ H5 fp τ s6 I3 f3 I6 q
    · refine thn (T.item (cxComp X N sc cl s3.heap.objs.size s3 (upd H1 acc (.lst [])) fp (X.pn ++ pins)) rfl rfl rfl hc i [] s5 τ H5 _ I5 (fun b hb => stat hb (fr5 b hb)) st5 go) fun r s6 ⟨u, hr, h6⟩ => ?_
      subst hr
      refine thn h6 fun _ s7 ⟨x, H7, I7, r7, y7, st7, fr7⟩ => ?_
      have I7' := I7.pinned (fun b hb => stat hb (fr7 b hb)) (T.obj _ _ st7)
      have again : ∀ {τ8 : St} {H8 : Hp} {s8 : Shared} {ys8 : List V}, Inv (cxComp X N sc cl s3.heap.objs.size s3 (upd H1 acc (.lst [])) fp (X.pn ++ pins)) ([] ++ pinsAt fp s7.heap) τ8 H8 s8 → (∃ m', m' < n ∧ W (i + 1) m' τ8 ys8 H8) →
          ∃ m, m < n ∧ ∃ i τ ys H', Inv (cxComp X N sc cl s3.heap.objs.size s3 (upd H1 acc (.lst [])) fp (X.pn ++ pins)) [] τ H' s8 ∧ tn i s8.heap ∧ (∀ b ∈ fp, H' b = none) ∧ W i m τ ys H' := fun {τ8 H8 s8 ys8} I8 ⟨m', hm, w8⟩ => by
        refine ⟨m', hm, i + 1, τ8, ys8, H8, I8.unpinned, T.keep _ _ _ st7 fun b hb o e => (I8.pin (b, o) (List.mem_append_right _ (List.mem_append_right _ (mem_pinsAt hb e)))).1, fun b hb => ?_, w8⟩
        obtain ⟨o, e, d⟩ := T.obj _ _ st7 b hb
        exact (I8.pin (b, o) (List.mem_append_right _ (List.mem_append_right _ (mem_pinsAt hb e)))).2.1
      have xf : ∀ (e : Value) (s : Shared), X.xe e s → False := fun e s h => by rw [hx] at h; exact h
      refine wpAny_mono (hg _ s7 τ H7 x u _ I7' r7 (step x H7 y7)) (fun _ s8 ⟨τ8, H8, I8, q8⟩ => ?_) xf
      refine wpAny_mono (hf _ s8 τ8 H8 _ I8 q8) (fun ok s9 ⟨H9, I9, q9⟩ => ?_) xf
      cases ok with
      | false => exact again I9 q9
      | true =>
        rw [if_pos rfl] at q9 ⊢
        refine wpAny_mono (he _ s9 τ8 H9 _ I9 q9) (fun v s10 ⟨y, H10, I10, ry, q10⟩ => ?_) xf
        obtain ⟨h10, hz, q10⟩ := q10
        refine wpAny_mono (mt_append (X := cxComp X N sc cl s3.heap.objs.size s3 (upd H1 acc (.lst [])) fp (X.pn ++ pins)) _ s10 τ8 H10 (.ref acc) [y] (.ref acc) [v] (fun _ H' => H' = upd H10 acc (.lst (ys ++ [y]))) I10 rfl (.cons ry .nil) ⟨acc, ys, y, rfl, rfl, h10, hz, rfl⟩) (fun _ s11 ⟨z, H11, I11, _, e11⟩ => ?_) xf
        subst e11
        exact again I11 q10
  exact codeAny_compStart_list (loop _ rfl) (T.self _ 0 _ _ _ st4 (loop _ rfl))
end

/-- [elt for tg in iter if ..] -/
theorem pe_comp {X : Cx} {N : List Str} {sc : Scope} {cl : List (Str × Addr)} {fr : List (Nat × Nat)} {elt tg iter : Expr} {ifs : List Expr} {pos : Pos} {wi : TI} {g : TG} {tf : TT} {te : TE} (hc : X.calm = true)
    (K : CompOk X N sc cl fr) (hi : PI X tg iter wi)
    (hb : ∀ C s₀ H₀ ex pn, PG (cxComp X.nox N sc cl C s₀ H₀ ex pn) tg g ∧ PIfs (cxComp X.nox N sc cl C s₀ H₀ ex pn) ifs tf ∧ PE (cxComp X.nox N sc cl C s₀ H₀ ex pn) elt te)
    (hs : ∀ x, foldedSetIterable iter X.env x = pure x := by intro _; rfl) : PE X (.ListComp elt [⟨tg, iter, ifs, 0⟩] sc pos) (tComp N.length fr wi g tf te) := by
  intro pins s σ H Q I h
  rw [eval_ListComp]
  refine wpAny_comprehension_free (use := none) rfl hs K.clos K.kind K.names (thn (hi pins s σ H _ I h) fun v s1 h1 => thn h1 fun itv s2 h2 => ?_)
  have K' : CompOk X.nox N sc cl fr := ⟨K.clos, K.kind, K.nocell, K.names, K.sub, K.has, K.frees⟩
  obtain ⟨it, fp, tn, J, H1, e, I1, T, st1, f1, hw⟩ := h2
  refine wpAny_mono (comp_run (X := X.nox) (pins := pins) (σ := σ) (Q := Q) (RR := fun acc C => compPost (model X.prog X.w) X.A X.xe none (EP X pins σ Q) acc C) rfl hc K' hb ⟨it, fp, tn, J, H1, e, I1.wish _, T, st1, f1, hw⟩ ?_) (fun _ _ q => wpAny_mono q (fun _ _ z => z) fun _ _ z => False.elim z) fun _ _ z => False.elim z
  intro acc s3 H3 H' fp' τ s' I3 f3 J' q
  obtain ⟨m, hm, _⟩ := J'.loc
  exact ⟨m, hm, fun h' hs' => ⟨.ref acc, H', (comp_back I3 f3 J' hs').unwish, rfl, q⟩⟩
end L2
namespace L2
open PySem PySem.Spec PyProof.Rows
/-! ### names and cells of a comprehension, by computation -/
def closL (cells : List (Str × Addr)) : List (Str × NameKind) → List (Str × Addr) → List (Str × Addr)
  | [], cs => cs
  | (n, k) :: r, cs => closL cells r (if k == .free then (n, (cells.lookup n).getD 0) :: cs else cs)
theorem closL_forIn {env : Env} : ∀ (names : List (Str × NameKind)) (cs : List (Str × Addr)), (∀ y ∈ names, y.2 = .free → ∃ c, env.cells.lookup y.1 = some c) →
    (forIn names cs (fun x r => match x with | (name, kind) => if (kind == NameKind.free) = true then (do let a ← cellOf env name; pure (ForInStep.yield ((name, a) :: r))) else pure (ForInStep.yield r)) : Sem (List (Str × Addr))) = pure (closL env.cells names cs)
  | [], cs, _ => by rfl
  | (n, k) :: r, cs, h => by
    rw [List.forIn_cons]
    by_cases hk : k = .free
    · subst hk
      obtain ⟨c, hc⟩ := h (n, .free) List.mem_cons_self rfl
      have e : cellOf env n = pure c := by unfold cellOf; rw [hc]
      simp only [e, closL, hc, Option.getD_some, beq_self_eq_true, if_true]
      exact closL_forIn r _ fun y hy => h y (List.mem_cons_of_mem _ hy)
    · have hb : (k == NameKind.free) = false := by simpa using hk
      simp only [hb, closL, Bool.false_eq_true, if_false]
      exact closL_forIn r _ fun y hy => h y (List.mem_cons_of_mem _ hy)
theorem closureFor_eq {sc : Scope} {env : Env} (h : ∀ y ∈ sc.names, y.2 = .free → ∃ c, env.cells.lookup y.1 = some c) : closureFor sc env = pure (closL env.cells sc.names []) := by
  unfold closureFor
  have := closL_forIn (env := env) sc.names [] h
  simp only [bind_pure_comp, id_map'] at *
  first
    | exact this
    | (rw [this]; rfl)
theorem closL_mem {cells : List (Str × Addr)} : ∀ {names : List (Str × NameKind)} {cs : List (Str × Addr)} {p : Str × Addr}, p ∈ closL cells names cs → p ∈ cs ∨ ((p.1, NameKind.free) ∈ names ∧ p.2 = (cells.lookup p.1).getD 0)
  | [], cs, p, h => .inl h
  | (n, k) :: r, cs, p, h => by
    unfold closL at h
    rcases closL_mem h with q | ⟨q1, q2⟩
    · by_cases hk : k = .free
      · subst hk
        rw [if_pos (by simp)] at q
        rcases List.mem_cons.mp q with e | e
        · subst e; exact .inr ⟨List.mem_cons_self, rfl⟩
        · exact .inl e
      · rw [if_neg (by simpa using hk)] at q
        exact .inl q
    · exact .inr ⟨List.mem_cons_of_mem _ q1, q2⟩
theorem closL_acc {cells : List (Str × Addr)} : ∀ {names : List (Str × NameKind)} {cs : List (Str × Addr)} {x : Str}, x ∈ cs.map (·.1) → x ∈ (closL cells names cs).map (·.1)
  | [], cs, x, h => h
  | (n, k) :: r, cs, x, h => by
    unfold closL
    refine closL_acc ?_
    split
    · rw [List.map_cons]; exact List.mem_cons_of_mem _ h
    · exact h
theorem closL_has {cells : List (Str × Addr)} : ∀ {names : List (Str × NameKind)} {cs : List (Str × Addr)} {x : Str}, (x, NameKind.free) ∈ names → x ∈ (closL cells names cs).map (·.1)
  | [], cs, x, h => by simp at h
  | (n, k) :: r, cs, x, h => by
    unfold closL
    rcases List.mem_cons.mp h with e | e
    · cases e
      rw [if_pos (by simp)]
      exact closL_acc (by simp)
    · exact closL_has e
theorem lookup_mem {β : Type} : ∀ {l : List (Str × β)} {x : Str} {b : β}, l.lookup x = some b → (x, b) ∈ l
  | [], x, b, h => by simp at h
  | (n, c) :: r, x, b, h => by
    rw [List.lookup_cons] at h
    cases hx : x == n with
    | true => rw [hx] at h; cases h; rw [eq_of_beq hx]; exact List.mem_cons_self
    | false => rw [hx] at h; exact List.mem_cons_of_mem _ (lookup_mem h)
theorem lookup_some {β : Type} : ∀ {l : List (Str × β)} {x : Str}, x ∈ l.map (·.1) → ∃ b, l.lookup x = some b
  | [], x, h => by simp at h
  | (n, c) :: r, x, h => by
    rw [List.lookup_cons]
    cases hx : x == n with
    | true => exact ⟨c, rfl⟩
    | false =>
      rw [List.map_cons] at h
      rcases List.mem_cons.mp h with e | e
      · subst e; simp at hx
      · exact lookup_some e
def compChk (N0 N : List Str) (sc0 sc : Scope) (fr : List (Nat × Nat)) : Bool :=
  sc.kind == .function && sc0.kind == .function && sc.names.all (fun x => !(x.2 == .cell)) && sc.names.all (fun x => !(x.2 == .local) || sc.names.lookup x.1 == some .local) &&
  sc.names.all (fun x => !(x.2 == .free) || (sc0.names.lookup x.1 == some .cell || sc0.names.lookup x.1 == some .free)) &&
  fr.all (fun p => match N[p.1]? with | some x => N0[p.2]? == some x && (sc0.names.lookup x == some .cell || sc0.names.lookup x == some .free) && sc.names.lookup x == some .free | none => false)
theorem relabel_free {sc : Scope} {env : Env} {x : Str} (hn : ∀ y ∈ sc.names, y.2 ≠ .cell) (h : (relabel sc env).names.lookup x = some .cell ∨ (relabel sc env).names.lookup x = some .free) : (x, NameKind.free) ∈ sc.names := by
  have all : ∀ (k : NameKind), (k = .cell ∨ k = .free) → (x, k) ∈ (relabel sc env).names → (x, NameKind.free) ∈ sc.names := by
    intro k hk hm
    unfold relabel at hm
    simp only [List.mem_map] at hm
    obtain ⟨⟨n, k'⟩, hy, e⟩ := hm
    dsimp only at e
    split at e
    · rename_i c
      cases e
      simp only [Bool.and_eq_true] at c
      have : k' = .free := by simpa using c.1.1
      rw [← this]; exact hy
    · cases e
      rcases hk with rfl | rfl
      · exact absurd rfl (hn _ hy)
      · exact hy
  rcases h with h | h
  · exact all _ (.inl rfl) (lookup_mem h)
  · exact all _ (.inr rfl) (lookup_mem h)
theorem relabel_get {sc : Scope} {env : Env} {x : Str} : ∀ {names : List (Str × NameKind)}, names.lookup x = some .free →
    (names.map fun (n, k) => if (k == NameKind.free && env.scope.kind == .function && env.kindOf n == some .cell) then (n, NameKind.cell) else (n, k)).lookup x = some .cell ∨
    (names.map fun (n, k) => if (k == NameKind.free && env.scope.kind == .function && env.kindOf n == some .cell) then (n, NameKind.cell) else (n, k)).lookup x = some .free
  | [], h => by simp at h
  | (n, k) :: r, h => by
    rw [List.map_cons]
    rw [List.lookup_cons] at h
    cases hx : x == n with
    | true =>
      rw [hx] at h
      cases h
      dsimp only
      split <;> simp [List.lookup_cons, hx]
    | false =>
      rw [hx] at h
      have ih := relabel_get (sc := sc) (env := env) (x := x) (names := r) h
      dsimp only
      split <;> (rw [List.lookup_cons, hx]; exact ih)
/-- the cells that a context has -/
def HasC (X : Cx) (sc0 : Scope) : Prop := ∀ x, (sc0.names.lookup x = some .cell ∨ sc0.names.lookup x = some .free) → ∃ c, X.env.cells.lookup x = some c
theorem compOkG {X : Cx} {N0 N : List Str} {sc0 sc : Scope} {fr : List (Nat × Nat)} (hN : X.N = N0) (hs : X.env.scope = sc0) (hce : HasC X sc0) (hc : compChk N0 N sc0 sc fr = true) : CompOk X N sc (closL X.env.cells sc.names []) fr := by
  unfold compChk at hc
  simp only [Bool.and_eq_true] at hc
  obtain ⟨⟨⟨⟨⟨c1, c2⟩, c3⟩, c4⟩, c5⟩, c6⟩ := hc
  have nocell : ∀ x ∈ sc.names, x.2 ≠ .cell := fun x hx e => by
    have := List.all_eq_true.mp c3 x hx
    rw [e] at this
    exact absurd this (by decide)
  have cells : ∀ y ∈ sc.names, y.2 = .free → ∃ c, X.env.cells.lookup y.1 = some c := fun y hy e => by
    have := List.all_eq_true.mp c5 y hy
    rw [e] at this
    exact hce y.1 (by simpa using this)
  have sub : ∀ x c, (closL X.env.cells sc.names []).lookup x = some c → X.env.cells.lookup x = some c := fun x c h => by
    rcases closL_mem (lookup_mem h) with q | ⟨q1, q2⟩
    · simp at q
    · obtain ⟨c', hc'⟩ := cells _ q1 rfl
      have hc' : X.env.cells.lookup x = some c' := hc'
      have q2 : c = (X.env.cells.lookup x).getD 0 := q2
      rw [hc'] at q2
      rw [hc', q2]; rfl
  refine ⟨closureFor_eq fun y hy e => cells y hy e, by simpa using c1, nocell, fun x hx e => ?_, sub, fun x h => lookup_some (closL_has (relabel_free nocell h)), fun p hp => ?_⟩
  · have := List.all_eq_true.mp c4 x hx
    rw [e] at this
    simpa using this
  · have := List.all_eq_true.mp c6 p hp
    cases q : N[p.1]? with
    | none => rw [q] at this; simp at this
    | some x =>
      rw [q] at this
      simp only [Bool.and_eq_true, Bool.or_eq_true, beq_iff_eq] at this
      refine ⟨x, rfl, by rw [hN]; exact this.1.1, by rw [hs]; exact this.1.2, ?_⟩
      exact relabel_get (sc := sc) (env := X.env) this.2

theorem hasC_def {X : Cx} {sc0 : Scope} {n0 : Nat} (h : X.env.cells = cellsFrom n0 sc0.names []) (nf : sc0.names.all (fun y => !(y.2 == .free)) = true) : HasC X sc0 := fun x hx => by
  rcases hx with q | q
  · rw [h]; exact cell_has q
  · have := List.all_eq_true.mp nf _ (lookup_mem q)
    exact absurd (show (!(NameKind.free == NameKind.free)) = true from this) (by decide)
/-- in a def's body -/
theorem compOk {X : Cx} {N0 N : List Str} {sc0 sc : Scope} {fr : List (Nat × Nat)} {n0 : Nat} (hN : X.N = N0) (hs : X.env.scope = sc0 ∧ X.env.cells = cellsFrom n0 sc0.names []) (hc : (sc0.names.all (fun y => !(y.2 == .free)) && compChk N0 N sc0 sc fr) = true) : CompOk X N sc (closL X.env.cells sc.names []) fr := by
  rw [Bool.and_eq_true] at hc
  exact compOkG hN hs.1 (hasC_def hs.2 hc.1) hc.2

/-- x = [elt for ..], x a plain local on the same row -/
theorem ps_setC {X : Cx} {N : List Str} {sc : Scope} {cl : List (Str × Addr)} {fr : List (Nat × Nat)} {elt tg iter : Expr} {ifs : List Expr} {pos pos' spos : Pos} {wi : TI} {g : TG} {tf : TT} {te : TE} {i : Nat} {x : Str}
    (hN : X.N.Nodup) (hi' : X.N[i]? = some x) (hx : X.env.scope.names.lookup x = some .local) (hc : X.calm = true)
    (K : CompOk X N sc cl fr) (hi : PI X tg iter wi)
    (hb : ∀ C s₀ H₀ ex pn, PG (cxComp X.nox N sc cl C s₀ H₀ ex pn) tg g ∧ PIfs (cxComp X.nox N sc cl C s₀ H₀ ex pn) ifs tf ∧ PE (cxComp X.nox N sc cl C s₀ H₀ ex pn) elt te)
    (hsw : swapsWith (.ListComp elt [⟨tg, iter, ifs, 0⟩] sc pos) (some (.Name x pos')) spos.line X.env = pure true := by rfl)
    (hs : ∀ x, foldedSetIterable iter X.env x = pure x := by intro _; rfl) : PS X (.Assign [.Name x pos'] (.ListComp elt [⟨tg, iter, ifs, 0⟩] sc pos) spos) (tAsg (tComp N.length fr wi g tf te) (gName i)) := by
  intro pins s σ H D I h
  rw [exec_Assign_Name_used _ _ _ _ hsw]
  refine wpAny_bind (wpAny_standAt (wpAny_bind ?_))
  show wpAny _ X.A (do let _ ← comprehension (.ListComp elt [⟨tg, iter, ifs, 0⟩] sc pos) sc X.env _ (newList []) false (eval iter X.env) (some (assign (.Name x pos') X.env))) _ _ s
  refine wpAny_bind (wpAny_mono (wpAny_comprehension_free (use := some (assign (.Name x pos') X.env)) (Q := fun _ s' => SP X pins D .next s') rfl hs K.clos K.kind K.names
    (thn (hi pins s σ H _ I h) fun v s1 h1 => thn h1 fun itv s2 h2 => ?_)) (fun _ s' hq => wpAny_pure (wpAny_pure hq)) fun _ _ e => e)
  have K' : CompOk X.nox N sc cl fr := ⟨K.clos, K.kind, K.nocell, K.names, K.sub, K.has, K.frees⟩
  obtain ⟨it, fp, tn, J, H1, e, I1, T, st1, f1, hw⟩ := h2
  refine wpAny_mono (comp_run (X := X.nox) (pins := pins) (σ := σ) (Q := fun v H' => D.nx (σ.set i (some v)) H') (RR := fun acc C => compPost (model X.prog X.w) X.A X.xe (some (assign (.Name x pos') X.env)) (fun _ s' => SP X pins D .next s') acc C) rfl hc K' hb ⟨it, fp, tn, J, H1, e, I1.wish _, T, st1, f1, hw⟩ ?_) (fun _ _ q => wpAny_mono q (fun _ _ z => z) fun _ _ z => False.elim z) fun _ _ z => False.elim z
  intro acc s3 H3 H' fp' τ s' I3 f3 J' q
  obtain ⟨m, hm, _⟩ := J'.loc
  have Ib := (comp_back I3 f3 J' (Heap.SameBut.refl _ _)).unwish
  show wpAny _ X.A (assign (.Name x pos') X.env (.ref acc)) _ _ _
  refine wpAny_assign_Name (store_ok2 Ib hN hi' (.inl hx) (v := .ref acc) rfl (fun s'' I'' hsb => ?_) (.inr hx))
  obtain ⟨c, hsb, hcc⟩ := hsb
  have hlt : X.env.locals < s3.heap.objs.size := I3.lt
  have hne : s3.heap.objs.size ≠ c := by
    rcases hcc with e | e
    · rw [e]; exact Nat.ne_of_gt hlt
    · intro z
      obtain ⟨w', o, ho, _⟩ := I3.cell x c e
      exact absurd (Heap.lt_size ho) (by rw [← z]; exact Nat.lt_irrefl _)
  refine ⟨m, hm.sameBut hsb hne, fun h' hs' => ?_⟩
  refine ⟨_, H', I''.turned (t' := s''.toks) (it := s3.heap.objs.size) (fun b o hb e => (hs'.2 b hb).trans e) J'.free (Nat.ne_of_gt hlt) (.inr I3.sz) (fun y c' e z => ?_) (fun p hp z => ?_), q⟩
  · obtain ⟨w', o, ho, _⟩ := I3.cell y c' e
    exact absurd (Heap.lt_size ho) (by rw [z]; exact Nat.lt_irrefl _)
  · exact absurd (Heap.lt_size (I3.pin p hp).1) (by rw [z]; exact Nat.lt_irrefl _)
end L2
namespace L2
open PySem PySem.Spec PyProof.Rows
/-! ### data: scalars, tuples, lists -/
inductive Dt where
  | v (x : V)
  | tup (l : List Dt)
  | lst (l : List Dt)
/-- flat values whose == is data's -/
def Sc (x : V) : Prop := match x with
  | .int _ => True
  | .str _ => True
  | .non => True
  | _ => False
mutual
/-- x stands for d -/
def Rep (H : Hp) (x : V) : Dt → Prop
  | .v y => x = y ∧ Sc y
  | .tup ds => ∃ a xs, x = .ref a ∧ H a = some (.tup xs) ∧ Reps H xs ds
  | .lst ds => ∃ a xs, x = .ref a ∧ H a = some (.lst xs) ∧ Reps H xs ds
def Reps (H : Hp) (xs : List V) : List Dt → Prop
  | [] => xs = []
  | d :: ds => ∃ x r, xs = x :: r ∧ Rep H x d ∧ Reps H r ds
end
theorem Reps.nil {H : Hp} : Reps H [] [] := by unfold Reps; rfl
theorem Reps.cons {H : Hp} {x : V} {xs : List V} {d : Dt} {ds : List Dt} (h : Rep H x d) (t : Reps H xs ds) : Reps H (x :: xs) (d :: ds) := by
  unfold Reps; exact ⟨x, xs, rfl, h, t⟩
theorem Rep.sc {H : Hp} {x : V} (h : Sc x) : Rep H x (.v x) := by unfold Rep; exact ⟨rfl, h⟩
theorem Rep.int {H : Hp} (i : Int) : Rep H (.int i) (.v (.int i)) := .sc trivial
theorem Reps.length {H : Hp} : ∀ {xs : List V} {ds : List Dt}, Reps H xs ds → xs.length = ds.length
  | xs, [], h => by unfold Reps at h; rw [h]; rfl
  | xs, d :: ds, h => by
    unfold Reps at h
    obtain ⟨x, r, rfl, _, h2⟩ := h
    rw [List.length_cons, List.length_cons, Reps.length h2]
theorem Reps.get {H : Hp} : ∀ {xs : List V} {ds : List Dt} {i : Nat} {d : Dt}, Reps H xs ds → ds[i]? = some d → ∃ x, xs[i]? = some x ∧ Rep H x d
  | xs, [], i, d, _, e => by simp at e
  | xs, d' :: ds, i, d, h, e => by
    unfold Reps at h
    obtain ⟨x, r, rfl, h1, h2⟩ := h
    cases i with
    | zero => simp at e; subst e; exact ⟨x, by simp, h1⟩
    | succ i =>
      obtain ⟨y, hy, q⟩ := Reps.get (i := i) (d := d) h2 (by simpa using e)
      exact ⟨y, by simpa using hy, q⟩
theorem Reps.at {H : Hp} {xs : List V} {ds : List Dt} {i : Nat} {x : V} (h : Reps H xs ds) (e : xs[i]? = some x) : ∃ d, ds[i]? = some d ∧ Rep H x d := by
  have hl := h.length
  have hi : i < ds.length := by have := (List.getElem?_eq_some_iff.mp e).1; omega
  obtain ⟨y, hy, q⟩ := h.get (List.getElem?_eq_getElem hi)
  rw [e] at hy; cases hy
  exact ⟨_, List.getElem?_eq_getElem hi, q⟩
theorem Reps.append {H : Hp} : ∀ {xs : List V} {ds : List Dt} {ys : List V} {es : List Dt}, Reps H xs ds → Reps H ys es → Reps H (xs ++ ys) (ds ++ es)
  | xs, [], ys, es, h, g => by unfold Reps at h; subst h; exact g
  | xs, d :: ds, ys, es, h, g => by
    unfold Reps at h
    obtain ⟨x, r, rfl, h1, h2⟩ := h
    exact .cons h1 (Reps.append h2 g)
theorem Reps.take {H : Hp} : ∀ {xs : List V} {ds : List Dt} (n : Nat), Reps H xs ds → Reps H (xs.take n) (ds.take n)
  | xs, ds, 0, _ => by simp; exact .nil
  | xs, [], n + 1, h => by unfold Reps at h; subst h; simp; exact .nil
  | xs, d :: ds, n + 1, h => by
    unfold Reps at h
    obtain ⟨x, r, rfl, h1, h2⟩ := h
    exact .cons h1 (Reps.take n h2)
theorem Reps.drop {H : Hp} : ∀ {xs : List V} {ds : List Dt} (n : Nat), Reps H xs ds → Reps H (xs.drop n) (ds.drop n)
  | xs, ds, 0, h => by simpa using h
  | xs, [], n + 1, h => by unfold Reps at h; subst h; simp; exact .nil
  | xs, d :: ds, n + 1, h => by
    unfold Reps at h
    obtain ⟨x, r, rfl, h1, h2⟩ := h
    simpa using Reps.drop n h2
/-! what was tracked stays -/
mutual
theorem Rep.keep {H H' : Hp} (k : ∀ b o, H b = some o → H' b = some o) {x : V} : ∀ {d : Dt}, Rep H x d → Rep H' x d
  | .v y, h => by unfold Rep at h ⊢; exact h
  | .tup ds, h => by
    unfold Rep at h ⊢
    obtain ⟨a, xs, e, h1, h2⟩ := h
    exact ⟨a, xs, e, k _ _ h1, Reps.keep k h2⟩
  | .lst ds, h => by
    unfold Rep at h ⊢
    obtain ⟨a, xs, e, h1, h2⟩ := h
    exact ⟨a, xs, e, k _ _ h1, Reps.keep k h2⟩
theorem Reps.keep {H H' : Hp} (k : ∀ b o, H b = some o → H' b = some o) {xs : List V} : ∀ {ds : List Dt}, Reps H xs ds → Reps H' xs ds
  | [], h => by unfold Reps at h ⊢; exact h
  | d :: ds, h => by
    unfold Reps at h ⊢
    obtain ⟨x, r, e, h1, h2⟩ := h
    exact ⟨x, r, e, Rep.keep k h1, Reps.keep k h2⟩
end
mutual
/-- data without lists stays whatever is written -/
def Froz : Dt → Prop
  | .v _ => True
  | .tup ds => Frozs ds
  | .lst _ => False
def Frozs : List Dt → Prop
  | [] => True
  | d :: ds => Froz d ∧ Frozs ds
end
mutual
theorem Rep.froz {H H' : Hp} (k : ∀ b xs, H b = some (.tup xs) → H' b = some (.tup xs)) {x : V} : ∀ {d : Dt}, Froz d → Rep H x d → Rep H' x d
  | .v y, _, h => by unfold Rep at h ⊢; exact h
  | .tup ds, f, h => by
    unfold Froz at f
    unfold Rep at h ⊢
    obtain ⟨a, xs, e, h1, h2⟩ := h
    exact ⟨a, xs, e, k _ _ h1, Reps.froz k f h2⟩
  | .lst ds, f, h => by unfold Froz at f; exact f.elim
theorem Reps.froz {H H' : Hp} (k : ∀ b xs, H b = some (.tup xs) → H' b = some (.tup xs)) {xs : List V} : ∀ {ds : List Dt}, Frozs ds → Reps H xs ds → Reps H' xs ds
  | [], _, h => by unfold Reps at h ⊢; exact h
  | d :: ds, f, h => by
    unfold Frozs at f
    unfold Reps at h ⊢
    obtain ⟨x, r, e, h1, h2⟩ := h
    exact ⟨x, r, e, Rep.froz k f.1 h1, Reps.froz k f.2 h2⟩
end
/-! == of data -/
mutual
def eqD : Dt → Dt → Bool
  | .v x, .v y => decide (x = y)
  | .tup a, .tup b => eqDs a b
  | .lst a, .lst b => eqDs a b
  | _, _ => false
def eqDs : List Dt → List Dt → Bool
  | [], [] => true
  | a :: r, b :: t => eqD a b && eqDs r t
  | _, _ => false
end
mutual
theorem eqD_refl : ∀ d : Dt, eqD d d = true
  | .v x => by unfold eqD; simp
  | .tup a => by unfold eqD; exact eqDs_refl a
  | .lst a => by unfold eqD; exact eqDs_refl a
theorem eqDs_refl : ∀ d : List Dt, eqDs d d = true
  | [] => by unfold eqDs; rfl
  | a :: r => by unfold eqDs; rw [eqD_refl a, eqDs_refl r]; rfl
end
mutual
theorem eqD_eq : ∀ {a b : Dt}, eqD a b = true → a = b
  | .v x, .v y, h => by unfold eqD at h; rw [of_decide_eq_true h]
  | .tup a, .tup b, h => by unfold eqD at h; rw [eqDs_eq h]
  | .lst a, .lst b, h => by unfold eqD at h; rw [eqDs_eq h]
  | .v _, .tup _, h => by simp [eqD] at h
  | .v _, .lst _, h => by simp [eqD] at h
  | .tup _, .v _, h => by simp [eqD] at h
  | .tup _, .lst _, h => by simp [eqD] at h
  | .lst _, .v _, h => by simp [eqD] at h
  | .lst _, .tup _, h => by simp [eqD] at h
theorem eqDs_eq : ∀ {a b : List Dt}, eqDs a b = true → a = b
  | [], [], _ => rfl
  | a :: r, b :: t, h => by
    unfold eqDs at h
    rw [Bool.and_eq_true] at h
    rw [eqD_eq h.1, eqDs_eq h.2]
  | [], _ :: _, h => by simp [eqDs] at h
  | _ :: _, [], h => by simp [eqDs] at h
end
mutual
/-- how deep -/
def depD : Dt → Nat
  | .v _ => 0
  | .tup l => depDs l + 1
  | .lst l => depDs l + 1
def depDs : List Dt → Nat
  | [] => 0
  | d :: r => max (depD d) (depDs r)
end
section
variable {X : Cx} {pins : List (Addr × Obj)} {σ : St} {H : Hp} {s : Shared}
mutual
theorem Rep.inj {x : V} : ∀ {d e : Dt}, Rep H x d → Rep H x e → d = e
  | .v a, e, h, g => by
    unfold Rep at h
    obtain ⟨rfl, sx⟩ := h
    cases e with
    | v b => unfold Rep at g; rw [g.1]
    | tup b => unfold Rep at g; obtain ⟨a, xs, rfl, _⟩ := g; exact sx.elim
    | lst b => unfold Rep at g; obtain ⟨a, xs, rfl, _⟩ := g; exact sx.elim
  | .tup ds, e, h, g => by
    unfold Rep at h
    obtain ⟨a, xs, rfl, ha, hd⟩ := h
    cases e with
    | v b => unfold Rep at g; obtain ⟨rfl, sx⟩ := g; exact sx.elim
    | tup b =>
      unfold Rep at g
      obtain ⟨a', xs', q, ha', hd'⟩ := g
      cases q
      rw [ha] at ha'; cases ha'
      rw [Reps.inj hd hd']
    | lst b =>
      unfold Rep at g
      obtain ⟨a', xs', q, ha', hd'⟩ := g
      cases q
      rw [ha] at ha'; cases ha'
  | .lst ds, e, h, g => by
    unfold Rep at h
    obtain ⟨a, xs, rfl, ha, hd⟩ := h
    cases e with
    | v b => unfold Rep at g; obtain ⟨rfl, sx⟩ := g; exact sx.elim
    | lst b =>
      unfold Rep at g
      obtain ⟨a', xs', q, ha', hd'⟩ := g
      cases q
      rw [ha] at ha'; cases ha'
      rw [Reps.inj hd hd']
    | tup b =>
      unfold Rep at g
      obtain ⟨a', xs', q, ha', hd'⟩ := g
      cases q
      rw [ha] at ha'; cases ha'
theorem Reps.inj {xs : List V} : ∀ {d e : List Dt}, Reps H xs d → Reps H xs e → d = e
  | [], [], _, _ => rfl
  | [], e :: es, h, g => by
    unfold Reps at h g
    obtain ⟨x, r, q, _⟩ := g
    rw [h] at q; cases q
  | d :: ds, [], h, g => by
    unfold Reps at h g
    obtain ⟨x, r, q, _⟩ := h
    rw [g] at q; cases q
  | d :: ds, e :: es, h, g => by
    unfold Reps at h g
    obtain ⟨x, r, rfl, h1, h2⟩ := h
    obtain ⟨x', r', q, g1, g2⟩ := g
    injection q with q1 q2
    subst q1 q2
    rw [Rep.inj h1 g1, Reps.inj h2 g2]
end
end
end L2
namespace L2
open PySem PySem.Spec PyProof.Rows
section
variable {X : Cx}
/-! ### ==, != of data -/
def rEqD (k : Nat) : R2 := fun x y H Q => ∃ d e, Rep H x d ∧ Rep H y e ∧ depD d ≤ k ∧ Q (.bl (eqD d e)) H
def rNeD (k : Nat) : R2 := fun x y H Q => ∃ d e, Rep H x d ∧ Rep H y e ∧ depD d ≤ k ∧ Q (.bl (!eqD d e)) H
/-- != of two lists, of two tuples -/
def rNeL (k : Nat) : R2 := fun x y H Q => ∃ a b xs ys ds es, x = .ref a ∧ y = .ref b ∧ ((H a = some (.lst xs) ∧ H b = some (.lst ys)) ∨ (H a = some (.tup xs) ∧ H b = some (.tup ys))) ∧ Reps H xs ds ∧ Reps H ys es ∧ depDs ds ≤ k ∧ Q (.bl (!eqDs ds es)) H
/-! ### all, any of a list of bools -/
theorem Vals.bools : ∀ {bs : List Bool} {us : List Value}, Vals (bs.map V.bl) us → ∀ (i : Nat) (v : Value), us[i]? = some v → ∃ b, bs[i]? = some b ∧ v = .bool b
  | [], us, h, i, v, e => by cases h; simp at e
  | b :: bs, us, h, i, v, e => by
    cases h with
    | cons r t =>
      cases i with
      | zero => simp at e; subst e; cases r; exact ⟨b, by simp, rfl⟩
      | succ i =>
        obtain ⟨c, h1, h2⟩ := Vals.bools t i v (by simpa using e)
        exact ⟨c, by simpa using h1, h2⟩
theorem call_all (hc : X.calm = true) : CallR X (.builtin "all") (fun xs H Q => ∃ (p : Addr) (bs : List Bool), xs = [.ref p] ∧ SqL X.K H p (bs.map V.bl) ∧ Q (.bl (bs.all id)) H) := by
  intro pins s σ H xs us Q I r h
  obtain ⟨p, bs, rfl, hp, q⟩ := h
  obtain ⟨u, rfl, ru⟩ := vals1 r
  cases ru
  obtain ⟨its, rv, ⟨o, n, ho, hcl, _, hd⟩, hz⟩ := I.list hp
  have hl : s.heap.IsList p its.toArray := ⟨o, ho, hcl, n, hd⟩
  have hlt : p < s.heap.objs.size := Heap.lt_size ho
  have hh : X.A.handled = none := I.ok.hd hc
  refine call_all_walk (wpAny_pyIter_list hl ?_)
  refine ⟨s.heap.objs.size, [s.heap.objs.size, p], [s.heap.objs.size], its.toArray.size, _, _, fun i => (bs[i]?).getD true, rfl, Walks.list (A := X.A.in1) hh _ p (Nat.ne_of_lt hlt) its.toArray,
    ⟨⟨_, Heap.get?_push_size _ rfl, rfl, rfl⟩, hl.push _⟩, fun i v s' Q' E' hP hQ => ?_, fun h' tk hk => ?_⟩
  · obtain ⟨b, e, rfl⟩ := rv.bools i v (by simpa using hP)
    simp only [e, Option.getD_some] at hQ
    exact wpAny_truthy_bool hQ
  · have e : ((List.range its.toArray.size).all fun i => (bs[i]?).getD true) = bs.all id := by
      rw [List.size_toArray, ← rv.length, List.length_map]; exact LSm.range_all bs
    rw [e]
    exact ⟨.bl _, H, I.kept (LSm.kept_iter hk), rfl, q⟩
/-! ### isinstance(x, T) for a built-in type -/
theorem call_isinst : CallR X (.builtin "isinstance") (fun xs H Q => ∃ x n t b, xs = [x, .ty n] ∧ TyOf X.K H x t ∧ PySem.W.kitOne X.K t (.type n) = some b ∧ Q (.bl b) H) := by
  intro pins s σ H xs us Q I r h
  obtain ⟨x, n, t, b, rfl, ty, e, q⟩ := h
  obtain ⟨u, c, rfl, ru, rc⟩ := vals2 r
  cases rc
  exact isinst_ok I ru ty e fun tk => ⟨.bl b, H, I.tok tk, rfl, q⟩
/-! ### list.insert -/
def rInsert : V → List V → Hp → VK → Prop := fun x vs H Q => ∃ l xs i y, x = .ref l ∧ vs = [.int i, y] ∧ H l = some (.lst xs) ∧ xs.length < sizeLine ∧ 0 ≤ i ∧ i ≤ xs.length ∧ Q .non (upd H l (.lst (xs.take i.toNat ++ y :: xs.drop i.toNat)))
end
end L2
namespace L2
open PySem PySem.Spec PyProof.Rows
section
variable {prog : Program} {w : World} {A : Around} {E : Value → Shared → Prop} {s : Shared}
end
section
variable {X : Cx}
/-- sorted(xs) of ints, fewer than 64 -/
def rSorted (xs : List V) (P : Addr → List Int → Prop) (H : Hp) (Q : VK) : Prop := ∃ (p : Addr) (ns : List Int), xs = [.ref p] ∧ P p ns ∧ ns.length < 64 ∧ ∀ (l : Addr) (ms : List Int), H l = none → ms.Perm ns → ms.Pairwise (· ≤ ·) → Q (.ref l) (upd H l (.lst (ms.map V.int)))
/-! ### set(xs) of ints, and its len -/
/-! ### min, max, sum of a list of ints -/
end
end L2
namespace WR
open PySem L2
/-! ### data of the program -/
def roadD (r : Road) : Dt := .tup [.v (.int r.1), .v (.int r.2.1), .v (.int r.2.2)]
def pairD (p : Int × Int) : Dt := .tup [.v (.int p.1), .v (.int p.2)]
def intD (i : Int) : Dt := .v (.int i)
/-- a list of roads stands at p -/
def RoadsAt (H : Hp) (p : Addr) (rs : List Road) : Prop := ∃ xs, H p = some (.lst xs) ∧ Reps H xs (rs.map roadD)
def PairsAt (H : Hp) (p : Addr) (ps : List (Int × Int)) : Prop := ∃ xs, H p = some (.lst xs) ∧ Reps H xs (ps.map pairD)
/-- a dict: village, (the one next to it, how far) -/
def FoundAt (H : Hp) (q : Addr) (tab : List Ent) : Prop := ∃ kvs, H q = some (.dK kvs) ∧ Paired (fun (kv : Key × V) (e : Ent) => kv.1 = Sum.inl e.1 ∧ Rep H kv.2 (pairD e.2)) kvs tab
theorem RoadsAt.keep {H H' : Hp} {p : Addr} {rs : List Road} (k : Same H H') (h : RoadsAt H p rs) : RoadsAt H' p rs := let ⟨xs, h1, h2⟩ := h; ⟨xs, k _ _ h1, h2.keep k⟩
theorem PairsAt.keep {H H' : Hp} {p : Addr} {rs : List (Int × Int)} (k : Same H H') (h : PairsAt H p rs) : PairsAt H' p rs := let ⟨xs, h1, h2⟩ := h; ⟨xs, k _ _ h1, h2.keep k⟩
theorem FoundAt.keep {H H' : Hp} {p : Addr} {rs : List Ent} (k : Same H H') (h : FoundAt H p rs) : FoundAt H' p rs := let ⟨xs, h1, h2⟩ := h; ⟨xs, k _ _ h1, Paired.mapP h2 fun _ _ z => ⟨z.1, z.2.keep k⟩⟩
theorem frozs_roads : ∀ rs : List Road, Frozs (rs.map roadD)
  | [] => by unfold List.map Frozs; trivial
  | r :: t => by
    rw [List.map_cons]
    unfold Frozs
    exact ⟨by unfold roadD Froz Frozs Frozs Frozs Frozs Froz; simp, frozs_roads t⟩
/-- a road's tuple -/
theorem roadD_at {H : Hp} {x : V} {r : Road} (h : Rep H x (roadD r)) : ∃ a, x = .ref a ∧ H a = some (.tup [.int r.1, .int r.2.1, .int r.2.2]) := by
  unfold roadD Rep at h
  obtain ⟨a, xs, rfl, ha, hr⟩ := h
  unfold Reps at hr
  obtain ⟨x1, r1, rfl, h1, hr⟩ := hr
  unfold Reps at hr
  obtain ⟨x2, r2, rfl, h2, hr⟩ := hr
  unfold Reps at hr
  obtain ⟨x3, r3, rfl, h3, hr⟩ := hr
  unfold Reps at hr
  subst hr
  unfold Rep at h1 h2 h3
  rw [h1.1, h2.1, h3.1] at ha
  exact ⟨a, rfl, ha⟩
theorem pairD_at {H : Hp} {x : V} {r : Int × Int} (h : Rep H x (pairD r)) : ∃ a, x = .ref a ∧ H a = some (.tup [.int r.1, .int r.2]) := by
  unfold pairD Rep at h
  obtain ⟨a, xs, rfl, ha, hr⟩ := h
  unfold Reps at hr
  obtain ⟨x1, r1, rfl, h1, hr⟩ := hr
  unfold Reps at hr
  obtain ⟨x2, r2, rfl, h2, hr⟩ := hr
  unfold Reps at hr
  subst hr
  unfold Rep at h1 h2
  rw [h1.1, h2.1] at ha
  exact ⟨a, rfl, ha⟩
theorem roadD_mk {H : Hp} {a : Addr} {x y l : Int} (h : H a = some (.tup [.int x, .int y, .int l])) : Rep H (.ref a) (roadD (x, y, l)) := by
  unfold roadD Rep
  exact ⟨a, _, rfl, h, .cons (.int _) (.cons (.int _) (.cons (.int _) .nil))⟩
theorem pairD_mk {H : Hp} {a : Addr} {x y : Int} (h : H a = some (.tup [.int x, .int y])) : Rep H (.ref a) (pairD (x, y)) := by
  unfold pairD Rep
  exact ⟨a, _, rfl, h, .cons (.int _) (.cons (.int _) .nil)⟩
theorem same_new {H : Hp} {p : Addr} {o : HO} (h : H p = none) : Same H (upd H p o) := fun b u e => by rw [upd_ne (ne_of_none e h)]; exact e
theorem RoadsAt.get {H : Hp} {p : Addr} {rs : List Road} {xs : List V} (h1 : H p = some (.lst xs)) (h : Reps H xs (rs.map roadD)) {i : Nat} {x : V} (hx : xs[i]? = some x) : ∃ r a, rs[i]? = some r ∧ x = .ref a ∧ H a = some (.tup [.int r.1, .int r.2.1, .int r.2.2]) := by
  obtain ⟨d, hd, hr⟩ := h.at hx
  rw [List.getElem?_map] at hd
  cases q : rs[i]? with
  | none => rw [q] at hd; cases hd
  | some r =>
    rw [q] at hd
    cases hd
    obtain ⟨a, e, ha⟩ := roadD_at hr
    exact ⟨r, a, rfl, e, ha⟩
end WR
namespace L2
open PySem PySem.Spec PyProof.Rows
/-- a comprehension over a list that it leaves as it is; Pv by the turn, the block's names, the items so far, the heap -/
theorem comp_list {K : PySem.W.Frag} {a acc : Addr} {xs : List V} {n : Nat} {fr : List (Nat × Nat)} {g : TG} {tf : TT} {te : TE} {Qa : Hp → Prop} {σ : St} {H1 : Hp} (Pv : Nat → St → List V → Hp → Prop) (h0 : Pv 0 (startC n fr σ) [] (upd H1 acc (.lst [])))
    (hl : ∀ i τ ys H, i ≤ xs.length → Pv i τ ys H → SqL K H a xs ∧ H acc = some (.lst ys))
    (hs : ∀ i x τ ys H (R : St → List V → Hp → Prop), xs[i]? = some x → Pv i τ ys H → (∀ τ' ys' H', Pv (i + 1) τ' ys' H' → R τ' ys' H') → g x τ H fun τ4 H4 => tf τ4 H4 fun b H5 =>
      if b = true then te τ4 H5 fun v H6 => H6 acc = some (.lst ys) ∧ ys.length < sizeLine ∧ R τ4 (ys ++ [v]) (upd H6 acc (.lst (ys ++ [v]))) else R τ4 ys H5)
    (hd : ∀ τ ys H, Pv xs.length τ ys H → Qa H) :
    ∃ W : Nat → Nat → St → List V → Hp → Prop, (∃ m, W 0 m (startC n fr σ) [] (upd H1 acc (.lst []))) ∧ ∀ i m τ ys H2, W i m τ ys H2 →
      H2 acc = some (.lst ys) ∧ (((Itl K a).stop i H2 ∧ Qa H2) ∨ ((Itl K a).go i H2 ∧ ∀ x H3, (Itl K a).yld i H2 x H3 → g x τ H3 fun τ4 H4 => tf τ4 H4 fun b H5 =>
        if b = true then te τ4 H5 fun v H6 => H6 acc = some (.lst ys) ∧ ys.length < sizeLine ∧ ∃ m', m' < m ∧ W (i + 1) m' τ4 (ys ++ [v]) (upd H6 acc (.lst (ys ++ [v])))
        else ∃ m', m' < m ∧ W (i + 1) m' τ4 ys H5)) := by
  refine ⟨fun i m τ ys H => m = xs.length - i ∧ i ≤ xs.length ∧ Pv i τ ys H, ⟨xs.length, by simp, Nat.zero_le _, h0⟩, ?_⟩
  rintro i m τ ys H2 ⟨rfl, hi, p⟩
  obtain ⟨q, hacc⟩ := hl i τ ys H2 hi p
  refine ⟨hacc, ?_⟩
  by_cases hlt : i < xs.length
  · refine .inr ⟨⟨xs, xs[i], q, by simp [hlt]⟩, fun x H' y => ?_⟩
    obtain ⟨e, y⟩ := y
    subst e
    exact hs i x τ ys _ (fun τ' ys' H' => ∃ m', m' < xs.length - i ∧ m' = xs.length - (i + 1) ∧ i + 1 ≤ xs.length ∧ Pv (i + 1) τ' ys' H') (y xs q) p fun τ' ys' H' p' => ⟨xs.length - (i + 1), by omega, rfl, hlt, p'⟩
  · have e : i = xs.length := by omega
    subst e
    exact .inl ⟨⟨xs, q, Nat.le_refl _⟩, hd τ ys H2 p⟩
theorem comp_range {acc : Addr} {lo : Int} {k n : Nat} {fr : List (Nat × Nat)} {g : TG} {tf : TT} {te : TE} {Qa : Hp → Prop} {σ : St} {H1 : Hp} (Pv : Nat → St → List V → Hp → Prop) (h0 : Pv 0 (startC n fr σ) [] (upd H1 acc (.lst [])))
    (hl : ∀ i τ ys H, i ≤ k → Pv i τ ys H → H acc = some (.lst ys))
    (hs : ∀ i τ ys H (R : St → List V → Hp → Prop), i < k → Pv i τ ys H → (∀ τ' ys' H', Pv (i + 1) τ' ys' H' → R τ' ys' H') → g (.int (lo + i)) τ H fun τ4 H4 => tf τ4 H4 fun b H5 =>
      if b = true then te τ4 H5 fun v H6 => H6 acc = some (.lst ys) ∧ ys.length < sizeLine ∧ R τ4 (ys ++ [v]) (upd H6 acc (.lst (ys ++ [v]))) else R τ4 ys H5)
    (hd : ∀ τ ys H, Pv k τ ys H → Qa H) :
    ∃ W : Nat → Nat → St → List V → Hp → Prop, (∃ m, W 0 m (startC n fr σ) [] (upd H1 acc (.lst []))) ∧ ∀ i m τ ys H2, W i m τ ys H2 →
      H2 acc = some (.lst ys) ∧ (((Itr lo k).stop i H2 ∧ Qa H2) ∨ ((Itr lo k).go i H2 ∧ ∀ x H3, (Itr lo k).yld i H2 x H3 → g x τ H3 fun τ4 H4 => tf τ4 H4 fun b H5 =>
        if b = true then te τ4 H5 fun v H6 => H6 acc = some (.lst ys) ∧ ys.length < sizeLine ∧ ∃ m', m' < m ∧ W (i + 1) m' τ4 (ys ++ [v]) (upd H6 acc (.lst (ys ++ [v])))
        else ∃ m', m' < m ∧ W (i + 1) m' τ4 ys H5)) := by
  refine ⟨fun i m τ ys H => m = k - i ∧ i ≤ k ∧ Pv i τ ys H, ⟨k, by simp, Nat.zero_le _, h0⟩, ?_⟩
  rintro i m τ ys H2 ⟨rfl, hi, p⟩
  refine ⟨hl i τ ys H2 hi p, ?_⟩
  by_cases hlt : i < k
  · refine .inr ⟨hlt, fun x H' y => ?_⟩
    obtain ⟨e, e2⟩ := y
    subst e e2
    exact hs i τ ys _ (fun τ' ys' H' => ∃ m', m' < k - i ∧ m' = k - (i + 1) ∧ i + 1 ≤ k ∧ Pv (i + 1) τ' ys' H') hlt p fun τ' ys' H' p' => ⟨k - (i + 1), by omega, rfl, hlt, p'⟩
  · have e : i = k := by omega
    subst e
    exact .inl ⟨Nat.le_refl _, hd τ ys H2 p⟩
theorem noifN {i : Nat} {x : V} {τ : St} {H : Hp} {A B : St → Hp → Prop} (h : A (τ.set i (some x)) H) : gName i x τ H (fun τ4 H4 => tNoIf τ4 H4 fun b H5 => if b = true then A τ4 H5 else B τ4 H5) := by
  show if true = true then A (τ.set i (some x)) H else B (τ.set i (some x)) H
  rw [if_pos rfl]
  exact h
end L2
namespace L2
open PySem PySem.Spec PyProof.Rows
/-! ### rules with the module's part named (in a comprehension's block it may not hang on the block) -/
section
variable {X : Cx} {K : PySem.W.Frag}
end
end L2
namespace L2
open PySem PySem.Spec PyProof.Rows
section
variable {X : Cx} {pins : List (Addr × Obj)} {σ : St} {H : Hp} {s : Shared}
end
/-! ### enumerate(xs) -/
def Ite (K : PySem.W.Frag) (a : Addr) : It :=
  ⟨fun i H => ∃ xs x, SqL K H a xs ∧ xs[i]? = some x, fun i H x H' => ∃ p y, H p = none ∧ x = .ref p ∧ (∀ xs, SqL K H a xs → xs[i]? = some y) ∧ H' = upd H p (.tup [.int i, y]), fun i H => ∃ xs, SqL K H a xs ∧ xs.length ≤ i⟩
def iEnum (K : PySem.W.Frag) (ta : TA) : TI := fun σ H R => ta σ H fun vs H1 => ∃ a xs, vs = [.ref a] ∧ SqL K H1 a xs ∧ R (Ite K a) H1
/-! ### zip(xs, ys) -/
def Itz (K : PySem.W.Frag) (a b : Addr) : It :=
  ⟨fun i H => ∃ xs ys x y, SqL K H a xs ∧ SqL K H b ys ∧ xs[i]? = some x ∧ ys[i]? = some y, fun i H x H' => ∃ p y z, H p = none ∧ x = .ref p ∧ (∀ xs, SqL K H a xs → xs[i]? = some y) ∧ (∀ ys, SqL K H b ys → ys[i]? = some z) ∧ H' = upd H p (.tup [y, z]), fun i H => ∃ xs ys, SqL K H a xs ∧ SqL K H b ys ∧ (xs.length ≤ i ∨ ys.length ≤ i)⟩
def iZip (K : PySem.W.Frag) (ta : TA) : TI := fun σ H R => ta σ H fun vs H1 => ∃ a b xs ys, vs = [.ref a, .ref b] ∧ SqL K H1 a xs ∧ SqL K H1 b ys ∧ R (Itz K a b) H1
end L2
namespace L2
open PySem PySem.Spec PyProof.Rows
def maxI (ns : List Int) : Int := ns.max?.getD 0
def minI (ns : List Int) : Int := ns.min?.getD 0
section
variable {X : Cx}
end
end L2
namespace L2
theorem same_iff {H H' : Hp} : Same H H' ↔ ∀ b, H b = none ∨ H' b = H b := by
  constructor
  · intro h b
    cases e : H b with
    | none => exact .inl rfl
    | some o => exact .inr (h b o e)
  · intro h b o e
    rcases h b with q | q
    · rw [q] at e; cases e
    · rw [q]; exact e
end L2
namespace L2
open PySem PySem.Spec PyProof.Rows
/-! ### a comprehension over enumerate, over zip -/
/-! ### a comprehension within a comprehension -/
def relab (sc sc0 : Scope) : Scope := { sc with names := sc.names.map fun (n, k) => if (k == NameKind.free && sc0.kind == .function && sc0.names.lookup n == some .cell) then (n, NameKind.cell) else (n, k) }
end L2
namespace L2
open PySem PySem.Spec PyProof.Rows
/-! ### a comprehension whose block has cells of its own (a comprehension within it reads its names) -/
abbrev cxCompC (X : Cx) (N : List Str) (sc : Scope) (cl : List (Str × Addr)) (C : Addr) (s₀ : Shared) (H₀ : Hp) (ex : List Addr) (pn : List (Addr × Obj)) : Cx where
  prog := X.prog
  w := X.w
  K := X.K
  mg := X.mg
  base := X.base
  A := X.A
  N := N
  s₀ := s₀
  H₀ := H₀
  env := compEnvC sc (cellsFrom (C + 1) sc.names cl) C X.env
  outer := X.stack
  stack := X.stack
  ex := ex
  fn := fun x => sc.names.any fun p => p.1 == x && p.2 == NameKind.cell
  calm := X.calm
  pn := pn
  xe := X.xe
structure CompOkC (X : Cx) (N : List Str) (sc : Scope) (cl : List (Str × Addr)) (fr : List (Nat × Nat)) : Prop where
  clos : closureFor sc X.env = pure cl
  kind : sc.kind = .function
  names : ∀ x ∈ sc.names, x.2 = .local → sc.names.lookup x.1 = some .local
  sub : ∀ x c, cl.lookup x = some c → X.env.cells.lookup x = some c
  subm : ∀ x c, (x, c) ∈ cl → X.env.cells.lookup x = some c
  has : ∀ x, ((relabel sc X.env).names.lookup x = some .cell ∨ (relabel sc X.env).names.lookup x = some .free) → (∃ c, cl.lookup x = some c) ∨ (x, NameKind.cell) ∈ sc.names
  frees : ∀ p ∈ fr, ∃ x, N[p.1]? = some x ∧ X.N[p.2]? = some x ∧ (X.env.scope.names.lookup x = some .cell ∨ X.env.scope.names.lookup x = some .free) ∧ ((relabel sc X.env).names.lookup x = some .cell ∨ (relabel sc X.env).names.lookup x = some .free) ∧ (x, NameKind.cell) ∉ sc.names ∧ ∃ c, cl.lookup x = some c
section
variable {M : Model} {A : Around} {E : Value → Shared → Prop} {s : Shared}
end
section
variable {X : Cx} {N : List Str} {sc : Scope} {cl : List (Str × Addr)} {fr : List (Nat × Nat)} {pins : List (Addr × Obj)} {σ : St} {H : Hp} {s : Shared}
end

def compChkC (N0 N : List Str) (sc0 sc : Scope) (fr : List (Nat × Nat)) : Bool :=
  sc.kind == .function && sc0.kind == .function && sc.names.all (fun x => !(x.2 == .local) || sc.names.lookup x.1 == some .local) &&
  sc.names.all (fun x => !(x.2 == .free) || (sc0.names.lookup x.1 == some .cell || sc0.names.lookup x.1 == some .free)) &&
  fr.all (fun p => match N[p.1]? with | some x => N0[p.2]? == some x && (sc0.names.lookup x == some .cell || sc0.names.lookup x == some .free) && sc.names.lookup x == some .free && !(sc.names.any fun q => q.1 == x && q.2 == .cell) | none => false)
end L2
namespace L2
open PySem PySem.Spec PyProof.Rows
theorem Obj.dict_mapFields (o : Obj) (f : Array Value → Array Value) : (o.mapFields f).dict = o.dict := by
  obtain ⟨c, d, dt, sl⟩ := o; cases dt <;> rfl
/-! ### an error in flight: its class, no context; all of B stands; fl: the frame that has it -/
def FlyX (B : Heap) (l : List Env) (e : Addr) (cls : Value) (dx : Option Addr) (fl : Value) (h : Heap) : Prop := B.StaysIn h ∧ B.get? e = none ∧ h.FunFrames B l ∧ ∃ oe vs T oT ts, h.get? e = some oe ∧ oe.cls = cls ∧ oe.dict = dx ∧ oe.data = .fields vs ∧ vs[2]? = some .none ∧
  vs[1]? = some (.ref T) ∧ B.get? T = none ∧ T ≠ e ∧ h.get? T = some oT ∧ oT.data = .fields ts ∧ ts[3]? = some fl
theorem FlyX.at {B h : Heap} {l : List Env} {e : Addr} {cls fl : Value} {dx : Option Addr} (x : FlyX B l e cls dx fl h) : ∃ ob, h.get? e = some ob ∧ ob.cls = cls := by
  obtain ⟨_, _, _, oe, _, _, _, _, h1, h2, _⟩ := x
  exact ⟨oe, h1, h2⟩
theorem FlyX.rec {B h : Heap} {l : List Env} {e : Addr} {cls fl : Value} {dx : Option Addr} (x : FlyX B l e cls dx fl h) : ∃ ob vs, h.get? e = some ob ∧ ob.cls = cls ∧ ob.dict = dx ∧ ob.data = .fields vs ∧ vs[2]? = some .none := by
  obtain ⟨_, _, _, oe, vs, _, _, _, h1, h2, h3, h4, h5, _⟩ := x
  exact ⟨oe, vs, h1, h2, h3, h4, h5⟩
theorem FlyX.tail {B h : Heap} {env : Env} {l : List Env} {e : Addr} {cls fl : Value} {dx : Option Addr} (x : FlyX B (env :: l) e cls dx fl h) : FlyX B l e cls dx fl h := by
  obtain ⟨x1, x2, ⟨_, _, x3⟩, x4⟩ := x
  exact ⟨x1, x2, x3, x4⟩
section
variable {M : Model} {A : Around} {E : Value → Shared → Prop} {s : Shared} {B : Heap} {env : Env} {outer : List Env} {L e : Addr} {Q : Unit → Shared → Prop}
theorem entryX {oe : Obj} {vs : Array Value} {head : Value} {had : Bool} (fr : A.frames = some (env :: outer)) (ff : s.heap.FunFrames B (env :: outer)) (fe : env.frame = some L) (ge : s.heap.get? e = some oe) (st : B.StaysIn s.heap) (ne : B.get? e = none)
    (dt : oe.data = .fields vs) (v1 : 1 < vs.size) (v2 : vs[2]? = some .none) (k : ∀ hh, FlyX B (env :: outer) e oe.cls oe.dict (rawInt L) hh → s.heap.UpToSlots hh → Q () { s with heap := hh }) :
    wpAny M A (do let fo ← frameOf env; let pp ← entryPlaceOf L had; let tb ← EntryCells.newEntry head fo .none (rawInt L) .none pp; setField (.ref e) 1 tb) Q E s := by
  have out : e ∉ (env :: outer).filterMap (·.frame) := fun z => by
    obtain ⟨_, ob, h1, h2⟩ := ff.mem z
    rw [ge] at h1; cases h1
    exact h2 vs dt
  refine wpAny_bind (wpAny_frameOf_fun fr ff fe fun ha sa => wpAny_bind (wpAny_entryPlaceOf fun pp hp => ?_))
  unfold EntryCells.newEntry newFields
  refine wpAny_bind (wpAny_newObj_type ?_ (hp.sizeOk5 _ _ _ _ _))
  generalize hnew : ({ cls := .type "traceback", dict := none, data := .fields ([head, Value.ref L, .none, rawInt L, .none] ++ (if pp.isEmpty then List.replicate 6 Value.none else pp)).toArray } : Obj) = tbo
  have tdat : ∃ ts, tbo.data = .fields ts ∧ ts[3]? = some (rawInt L) := ⟨_, by rw [← hnew], by simp⟩
  have tfree : tbo.isFreed = false := by rw [← hnew]; rfl
  obtain ⟨ts, td, t3⟩ := tdat
  have ea : ha.get? e = some oe := (sa.2.1 e out).trans ge
  have sta : B.StaysIn ha := fun b o q => (sa.2.1 b fun z => by rw [(ff.mem z).1] at q; cases q).trans (st b o q)
  have eb : (ha.push tbo).get? e = some oe := Heap.get?_push_of_some tbo ea
  refine wpAny_setField eb dt v1 (k _ ?_ ?_)
  · have tne : ha.objs.size ≠ e := Nat.ne_of_gt (Heap.lt_size ea)
    have dd := Obj.data_mapFields dt (·.setIfInBounds 1 (Value.ref ha.objs.size))
    have other : ∀ b o, b ≠ e → ha.get? b = some o → ((ha.push tbo).update e (Obj.mapFields (·.setIfInBounds 1 (Value.ref ha.objs.size)))).get? b = some o := fun b o n q => by
      rw [Heap.get?_update_other _ _ (Ne.symm n)]
      exact Heap.get?_push_of_some _ q
    refine ⟨fun b o q => other b o (fun z => by rw [z, ne] at q; cases q) (sta b o q), ne, ff.of_keeps fun b o q nf => ?_, ?_⟩
    · obtain ⟨sl, q2⟩ := sa.2.2 b o q
      exact ⟨_, other b _ (fun z => by rw [z, ge] at q; cases q; exact nf vs dt) q2, rfl⟩
    · refine ⟨_, _, ha.objs.size, tbo, ts, Heap.get?_update_self _ eb (Obj.isFreed_of_fields dd), Obj.cls_mapFields _ _, Obj.dict_mapFields _ _, dd, ?_, by simp [v1], sta.fresh, tne, ?_, td, t3⟩
      · rw [Array.getElem?_setIfInBounds_ne (by decide)]; exact v2
      · rw [Heap.get?_update_other _ _ (Ne.symm tne)]
        exact Heap.get?_push_size ha tfree
  · intro b o q nf
    obtain ⟨sl, q2⟩ := sa.2.2 b o q
    refine ⟨sl, ?_⟩
    rw [Heap.get?_update_other _ _ (fun z => by rw [← z, ge] at q; cases q; exact nf vs dt)]
    exact Heap.get?_push_of_some _ q2
theorem noteX_first {oe : Obj} {vs : Array Value} (fr : A.frames = some (env :: outer)) (ff : s.heap.FunFrames B (env :: outer)) (fe : env.frame = some L) (ge : s.heap.get? e = some oe) (st : B.StaysIn s.heap) (ne : B.get? e = none)
    (dt : oe.data = .fields vs) (v1 : vs[1]? = some .none) (v2 : vs[2]? = some .none) (k : ∀ hh, FlyX B (env :: outer) e oe.cls oe.dict (rawInt L) hh → s.heap.UpToSlots hh → Q () { s with heap := hh }) : wpAny M A (noteFrame (.ref e) env) Q E s := by
  unfold noteFrame
  simp only [fe]
  refine wpAny_bind (wpAny_field ge dt v1 ?_)
  rw [if_neg (by decide)]
  exact entryX fr ff fe ge st ne dt (Array.getElem?_eq_some_iff.mp v1).1 v2 k
theorem noteX {cls : Value} {dx : Option Addr} (fr : A.frames = some (env :: outer)) (fe : env.frame = some L) (x : FlyX B (env :: outer) e cls dx .none s.heap) (k : ∀ hh, FlyX B (env :: outer) e cls dx (rawInt L) hh → s.heap.UpToSlots hh → Q () { s with heap := hh }) :
    wpAny M A (noteFrame (.ref e) env) Q E s := by
  obtain ⟨st, ne, ff, oe, vs, T, oT, ts, ge, rfl, rfl, dt, v2, v1, nT, Te, gT, dT, t3⟩ := x
  unfold noteFrame
  simp only [fe]
  refine wpAny_bind (wpAny_field ge dt v1 ?_)
  rw [if_pos (show (Value.ref T != Value.none) = true by simp)]
  refine wpAny_bind (wpAny_field gT dT t3 ?_)
  rw [if_neg (show ¬ ((Value.none == rawInt L) = true) by simp [rawInt])]
  refine wpAny_bind (wpAny_setField gT dT (Array.getElem?_eq_some_iff.mp t3).1 ?_)
  have oth : ∀ b, b ≠ T → (s.heap.update T (Obj.mapFields (·.setIfInBounds 3 Value.none))).get? b = s.heap.get? b := fun b n => Heap.get?_update_other _ _ (Ne.symm n)
  have nrec : ∀ b o, s.heap.get? b = some o → (∀ ws, o.data ≠ .fields ws) → b ≠ T := fun b o q nf z => by rw [z, gT] at q; cases q; exact nf ts dT
  refine entryX (s := { s with heap := s.heap.update T (Obj.mapFields (·.setIfInBounds 3 Value.none)) }) fr (ff.of_keeps fun b o q nf => ⟨o, (oth b (nrec b o q nf)).trans q, rfl⟩) fe ((oth e (Ne.symm Te)).trans ge)
    (fun b o q => (oth b fun z => by rw [z, nT] at q; cases q).trans (st b o q)) ne dt (Array.getElem?_eq_some_iff.mp v1).1 v2 fun hh f up => k hh f fun b o q nf => ?_
  exact up b o ((oth b (nrec b o q nf)).trans q) nf
theorem landX {l : List Env} {cls fl : Value} {dx : Option Addr} (x : FlyX B l e cls dx fl s.heap) (k : ∀ hh, FlyX B l e cls dx .none hh → s.heap.UpToSlots hh → Q () { s with heap := hh }) : wpAny M A (setFlight (.ref e) none) Q E s := by
  obtain ⟨st, ne, ff, oe, vs, T, oT, ts, ge, rfl, rfl, dt, v2, v1, nT, Te, gT, dT, t3⟩ := x
  have sz : 3 < ts.size := (Array.getElem?_eq_some_iff.mp t3).1
  unfold setFlight
  refine wpAny_bind (wpAny_field ge dt v1 ?_)
  rw [if_pos (show (Value.ref T != Value.none) = true by simp)]
  have oth : ∀ b, b ≠ T → (s.heap.update T (Obj.mapFields (·.setIfInBounds 3 ((none : Option Addr).elim Value.none fun f => rawInt f)))).get? b = s.heap.get? b := fun b n => Heap.get?_update_other _ _ (Ne.symm n)
  have nrec : ∀ b o, s.heap.get? b = some o → (∀ ws, o.data ≠ .fields ws) → b ≠ T := fun b o q nf z => by rw [z, gT] at q; cases q; exact nf ts dT
  refine wpAny_setField gT dT sz (k _ ⟨fun b o q => (oth b fun z => by rw [z, nT] at q; cases q).trans (st b o q), ne, ff.of_keeps fun b o q nf => ⟨o, (oth b (nrec b o q nf)).trans q, rfl⟩, ?_⟩ fun b o q nf => ⟨o.slots, (oth b (nrec b o q nf)).trans q⟩)
  exact ⟨oe, vs, T, _, _, (oth e (Ne.symm Te)).trans ge, rfl, rfl, dt, v2, v1, nT, Te, Heap.get?_update_self _ gT (Obj.isFreed_of_fields (Obj.data_mapFields dT _)), Obj.data_mapFields dT _, by simp [sz]⟩
theorem leaveX_first {oe : Obj} {vs : Array Value} (fr : A.frames = some (env :: outer)) (fe : env.frame = some L) (ff : s.heap.FunFrames B (env :: outer)) (ge : s.heap.get? e = some oe) (st : B.StaysIn s.heap) (ne : B.get? e = none)
    (dt : oe.data = .fields vs) (v1 : vs[1]? = some .none) (v2 : vs[2]? = some .none) (k : ∀ hh, FlyX B outer e oe.cls oe.dict .none hh → s.heap.UpToSlots hh → Q () { s with heap := hh }) : wpAny M A (leaving env (.ref e)) Q E s := by
  unfold leaving
  refine wpAny_bind (noteX_first fr ff fe ge st ne dt v1 v2 fun h1 f1 u1 => ?_)
  exact landX (s := { s with heap := h1 }) f1 fun h2 f2 u2 => k h2 f2.tail (u1.trans u2)
end
end L2
namespace L2
open PySem PySem.Spec PyProof.Rows
/-! ### exceptions that leave a def -/
theorem ObjOk.there {P : Program} {w : World} {H : Hp} {h : Heap} {a : Addr} {o : HO} (x : ObjOk P w H h a o) : ∃ u, h.get? a = some u := by
  cases o with
  | lst xs => obtain ⟨_, _, _, _, e⟩ := x; exact ⟨_, e⟩
  | tup xs => obtain ⟨_, _, _, o, e, _⟩ := x; exact ⟨_, e⟩
  | dK kvs => obtain ⟨_, _, _, _, o, _, _, e, _⟩ := x; exact ⟨_, e⟩
  | dT kvs => obtain ⟨_, _, _, _, o, _, _, e, _⟩ := x; exact ⟨_, e⟩
  | set S n => obtain ⟨o, _, _, _, e, _⟩ := x; exact ⟨_, e⟩
  | ins C dx fs => obtain ⟨_, _, _, e, _⟩ := x; exact ⟨_, e⟩
  | own y => obtain ⟨_, e⟩ := x; exact ⟨_, e⟩
  | xd fs => obtain ⟨_, ⟨_, _, _, e, _⟩, _⟩ := x; exact ⟨_, e⟩
  | rng lo hi => obtain ⟨_, _, _, e⟩ := x; exact ⟨_, e⟩
  | frz ob u => obtain ⟨e, _⟩ := x; exact ⟨_, e⟩
  | tbl ps => exact ⟨_, (show h.get? a = some _ from x)⟩
  | met f y => exact ⟨_, (show h.get? a = some _ from x)⟩
  | ext φ => obtain ⟨_, ⟨_, e⟩, _⟩ := x; exact ⟨_, e⟩
theorem HOk.none {P : Program} {w : World} {H : Hp} {h : Heap} {a : Addr} (x : HOk P w H h) (e : h.get? a = Option.none) : H a = Option.none := by
  cases q : H a with
  | none => rfl
  | some u => obtain ⟨o, z⟩ := (x a u q).there; rw [e] at z; cases z
/-- what stands behind an exception: all but the frames stands in B -/
structure UnB (fs : List Addr) (H H' : Hp) (h B h' : Heap) : Prop where
  keep : ∀ b o, h.get? b = some o → H b = none → b ∉ fs → B.get? b = some o
  slot : ∀ b o, h.get? b = some o → H b = none → b ∈ fs → ∃ sl, h'.get? b = some { o with slots := sl }
  free : ∀ b o, h.get? b = some o → H b = none → H' b = none
  there : ∀ b o, h.get? b = some o → b ∉ fs → ∃ o', B.get? b = some o'
  tfs : ∀ b ∈ fs, ∃ o', h'.get? b = some o'
  tups : ∀ b xs, H b = some (.tup xs) → H' b = some (.tup xs)
  frzs : ∀ b o u, H b = some (.frz o u) → H' b = some (.frz o u)
  tbls : ∀ b ps, H b = some (.tbl ps) → ∃ more, H' b = some (.tbl (ps ++ more))
theorem UnB.un {fs : List Addr} {H H' : Hp} {h B h' : Heap} (u : UnB fs H H' h B h') (k : B.StaysIn h') : Un fs [] H H' h h' where
  keep := fun b o e n hb _ => k _ _ (u.keep b o e n hb)
  slot := fun b o e n hb _ => u.slot b o e n hb
  free := fun b o e n _ => u.free b o e n
  there := fun b o e _ => by
    by_cases hb : b ∈ fs
    · exact u.tfs b hb
    · obtain ⟨o', q⟩ := u.there b o e hb
      exact ⟨o', k _ _ q⟩
  tups := u.tups
  frzs := u.frzs
  tbls := u.tbls
/-- an exception of a class, in flight -/
def CXE (P : Program) (w : World) (base : Heap) : CXT := fun outer H s E e s' => ∃ (a : Addr) (cls : Value) (dx : Option Addr) (H' : Hp) (B : Heap), e = .ref a ∧ s'.os = s.os ∧ AllBare s'.gens ∧ FlyX B outer a cls dx .none s'.heap ∧
  base.StaysIn B ∧ HOk P w H' B ∧ UnB (frs outer) H H' s.heap B s'.heap ∧ H' a = none ∧ E cls dx H'
section
variable {P : Program} {w : World} {K : PySem.W.Frag} {mg : Str → Option Value} {base : Heap}
section
variable {N : List Str} {qual : Str} {scope : Scope} {f : Addr} {cd : Value} {A : Around} {outer : List Env} {s₀ : Shared} {H₀ : Hp} {E : XK}
/-- what a raise must show: an exception that is made here goes as it is wished -/
def Raises (X : Cx) (E : XK) : Prop := ∀ (pins : List (Addr × Obj)) (σ : St) (H : Hp) (s : Shared) (a : Addr) (cls : Value) (vs : List Value) (h' : Heap), Inv X pins σ H s → Heap.MadeExcOf s.heap h' a cls vs → E cls none H → X.xe (.ref a) { s with heap := h' }
end
/-- THE RULE for a def that may raise -/
theorem Fun.okE {x qual : Str} {st : Stmt} {f : Addr} {fd : FuncData} {N ps : List Str} {k : Nat} {sp : Sp} (F : Fun K x qual st f fd) (S : FnScope N ps (defScope st)) (len : ∀ vs H Q E, sp vs H Q E → vs.length = ps.length)
    (hbody : ∀ (cdv : Value) (A : Around) (outer : List Env) (s : Shared) (H : Hp) (vs : List V) (Q : VK) (E : XK), Room k (A.deeper (envOfC qual (defScope st) s.heap.objs.size f cdv)) → sp vs H Q E →
      ∃ t, PSs (cxOf (CXE P w base) P w K mg base N qual (defScope st) f cdv A outer s H E) (defBody st) t ∧ t { nx := fun _ H' => Q .non H', rt := Q } (start N vs) H) : FnOk P w K mg base (CXE P w base) (k + 1) f fd ps sp := by
  obtain ⟨oc, od, kV, doc, pm, an, cdv, ct, osl, rfl, lk, hcd⟩ := F.ex
  exact fn_of lk hcd S len fun A outer s H vs Q E hr hsp => hbody cdv A outer s H vs Q E hr hsp
end
/-! ### raise C(..), C an error class of the text's own without an __init__ -/
def tRaise (C : Addr) (E : XK) (t : TA) : TS := fun _ σ H => t σ H fun vs H1 => vs.length ≤ sizeLine ∧ E (.ref C) none H1
end L2
namespace L2
open PySem PySem.Spec PyProof.Rows
/-! ### what an error class of the text's own must have -/
structure XCls (K : PySem.W.Frag) (C : Addr) : Prop where
  ga : PySem.W.findIn K (.ref C) "__getattribute__" = some (some (.builtin "BaseException.__getattribute__"))
  gn : PySem.W.findIn K (.ref C) "__getattr__" = some none
  gc : PySem.W.findIn K (.ref C) "__class__" = some (some (.builtin "object.__class__"))
  sb : PySem.W.subIn K (.ref C) (.type "BaseException") = some true
  so : PySem.W.subIn K (.ref C) (.type "object") = some true
  cl : (PySem.W.clsIn K C).isSome = true
section
variable {prog : Program} {w : World} {A : Around} {E : Value → Shared → Prop} {h : Heap} {g : Array GenState} {d : Drawn} {t : Nat} {os : OsState} {a C : Addr} {o : Obj} {K : PySem.W.Frag}
theorem xc_get {R : Result → Shared → Prop} (X : K.In h) (Z : XCls K C) (hx : h.get? a = some o) (hc : o.cls = .ref C) (hq : R (.ok (.ret (.ref C))) ⟨h, g, d, t, os⟩) :
    codeAny (model prog w) A (.call (.builtin "getset_descriptor.__get__") ⟨[.builtin "object.__class__", .ref a, .ref C], []⟩) R ⟨h, g, d, t, os⟩ := by
  have hT5 : (⟨h, g, d, t, os⟩ : Shared).TypeIs (.builtin "object.__class__") "getset_descriptor" := F.typeOf_object_class
  have so : PySem.W.Looks (model prog w) h (isSubtype (.ref C) (.type (".".intercalate ("object.__class__".cutAt '.').dropLast))) true := by rw [F.owner_object_class]; exact PySem.W.looks_subIn X Z.so
  refine codeAny_call_builtin F.slot_gs_get.plain F.entry_gs_get (F.slot_gs_get.check _ _ _ _ _ _ _ _ hT5 (F.args_gs_get _ _ _) ?_)
  repeat (any_goals (first | assumption | (with_reducible refine wpAny_loadPart_at hx ?_; rw [hc]) | with_reducible refine so.at ?_ | wp_step))
  refine ⟨Code.quiet_builtin _ (by decide +kernel), codeAny_builtin F.entry_object_class ?_⟩
  repeat (any_goals (first | assumption | (with_reducible refine wpAny_loadPart_at hx ?_; rw [hc]) | wp_step))
theorem xc_entry {tk : Tok} {Q : PySem.Fin → Shared → Prop} (X : K.In h) (Z : XCls K C) (hx : h.get? a = some o) (hc : o.cls = .ref C) (hq : Q (.done (.ret (.ref C))) ⟨h, g, d, t, os⟩) :
    wpAny (model prog w) A (Builtin.«object.__getattribute__» ⟨[.ref a, .str "__class__" tk], []⟩) Q E ⟨h, g, d, t, os⟩ := by
  have hT5 : (⟨h, g, d, t, os⟩ : Shared).TypeIs (.builtin "object.__class__") "getset_descriptor" := F.typeOf_object_class
  have gc := PySem.W.looks_findIn (M := model prog w) X Z.gc
  have f5 := F.typeOf_object_class
  have f6 := F.slot_gs_get.lookup
  have f7 := F.slot_gs_set.lookup
  repeat (any_goals (first | assumption | (with_reducible refine wpAny_loadPart_at hx ?_; rw [hc]) | with_reducible refine gc.at ?_ | wp_step))
  refine xc_get X Z hx hc ?_
  repeat (any_goals (first | assumption | wp_step))
theorem xc_check {M : Model} {nameV : Value} {Q : Unit → Shared → Prop} (X : K.In h) (Z : XCls K C) (hx : h.get? a = some o) (hc : o.cls = .ref C) (hq : Q () ⟨h, g, d, t, os⟩) : wpAny M A (checkBuiltinCall "BaseException.__getattribute__" ⟨[.ref a, nameV], []⟩) Q E ⟨h, g, d, t, os⟩ := by
  have hk : builtinKind "BaseException.__getattribute__" = some .slot := by decide +kernel
  have hsplit : splitId "BaseException.__getattribute__" = some ("BaseException", "__getattribute__") := by decide +kernel
  have sb := PySem.W.looks_subIn (M := M) X Z.sb
  have ha := F.args_bexc_ga (.ref a) nameV
  simp only [checkBuiltinCall, hk, hsplit]
  refine wpAny_bind ?_
  · unfold isInstance
    repeat (first | (with_reducible refine wpAny_loadPart_at hx ?_; rw [hc]) | with_reducible refine sb.at ?_ | wp_step)
    exact hq
theorem xc_by {tk : Tok} {Q : Value → Shared → Prop} (X : K.In h) (Z : XCls K C) (hx : h.get? a = some o) (hc : o.cls = .ref C) (hq : Q (.ref C) ⟨h, g, d, t, os⟩) :
    wpAny (model prog w) A (getAttrBy (.ref a) (.str "__class__" tk) false) Q E ⟨h, g, d, t, os⟩ := by
  have f3 := F.attr_ValueError.ga.bind (.ref a)
  have ga := PySem.W.looks_findIn (M := model prog w) X Z.ga
  have gn := PySem.W.looks_findIn (M := model prog w) X Z.gn
  have hx2 : (Value.builtin "BaseException.__getattribute__" == Value.builtin "object.__getattribute__") = false := by decide +kernel
  have hx1 : (onTheHeap (Value.ref C) && Value.builtin "BaseException.__getattribute__" == Value.builtin "object.__getattribute__") = false := by rw [hx2]; rfl
  repeat (any_goals (first | assumption | (with_reducible refine wpAny_loadPart_at hx ?_; rw [hc]) | with_reducible refine ga.at ?_ | with_reducible refine gn.at ?_ | wp_step))
  refine codeAny_call_builtin F.attr_ValueError.ga.plain F.entry_bexc_ga (xc_check X Z hx hc (xc_entry X Z hx hc ?_))
  repeat (any_goals (first | assumption | wp_step))
theorem xc_attr {Q : Option Value → Shared → Prop} (X : K.In h) (Z : XCls K C) (hx : h.get? a = some o) (hc : o.cls = .ref C) (hq : Q (some (.ref C)) ⟨h, g, d, t + 1, os⟩) : wpAny (model prog w) A (getAttr? (.ref a) "__class__") Q E ⟨h, g, d, t, os⟩ := by
  unfold getAttr? getAttrBy?
  repeat (any_goals (first | assumption | with_reducible apply xc_by X Z hx hc | wp_step))
end
theorem kitx_exc {K : PySem.W.Frag} {a C : Addr} (Z : XCls K C) : PySem.W.KitX K (.ref a) (.ref C) (fun h => ∃ o, h.get? a = some o ∧ o.cls = .ref C) where
  ty := fun M h X ⟨o, h1, h2⟩ => h2 ▸ (PySem.W.Looks.ld h1).andThen .now
  it := fun M h X _ => by
    have z := Z.cl
    unfold PySem.W.clsIn at z
    split at z
    · rename_i c' d' cd' sl' ho
      intro A' Q' E' s' k q
      unfold isType loadHead
      exact wpAny_bind (wpAny_loadPart (k _ _ (X _ _ ho)) (wpAny_pure q))
    · cases z
  ne := fun h tp dd its n sl X htp => by
    have z := Z.cl
    refine Bool.eq_false_iff.mpr fun q => ?_
    have e : C = tp := Value.ref.inj (beq_iff_eq.mp q)
    subst e
    unfold PySem.W.clsIn at z
    split at z
    · rename_i c' d' cd' sl' ho
      have z := (X _ _ ho).symm.trans htp
      cases z
    · cases z
  ca := fun {prog w A E Q s} X ⟨o, h1, h2⟩ k => by obtain ⟨h, g, d, t, os⟩ := s; exact xc_attr X Z h1 h2 k
/-- an error of the class at C -/
def excO (a C : Addr) (dx : Option Addr) : HO := .ext fun h => ∃ o vs, h.get? a = some o ∧ o.cls = .ref C ∧ o.dict = dx ∧ o.data = .fields vs ∧ vs[2]? = some .none
/-- isinstance(error, T), T one of the text's classes or a built-in one -/
theorem isinst_exc {X : Cx} {pins : List (Addr × Obj)} {σ : St} {H : Hp} {s : Shared} {A : Around} {E : Value → Shared → Prop} {Q : Value → Shared → Prop} {a C : Addr} {dx : Option Addr} {c : Value} {b : Bool} (I : Inv X pins σ H s) (hx : H a = some (excO a C dx)) (Z : XCls X.K C) (e : PySem.W.kitOne X.K (.ref C) c = some b)
    (h : ∀ tk, Q (.bool b) { s with toks := tk }) : wpAny (model X.prog X.w) A (call (.builtin "isinstance") [.ref a, c]) Q E s := by
  obtain ⟨⟨o, _, p1, p2, _⟩, _, _⟩ : ObjOk X.prog X.w H s.heap a (excO a C dx) := I.hok a _ hx
  exact PySem.W.kia_one (kitx_exc Z) I.kIn ⟨o, p1, p2⟩ e (fun z => nomatch z) h
section
variable {M : Model} {A : Around} {E : Value → Shared → Prop} {s : Shared} {K : PySem.W.Frag}
theorem excMatches_kit {e C : Addr} {cls : Value} {oe : Obj} {b : Bool} {Q : Bool → Shared → Prop} (X : K.In s.heap) (Z : XCls K C) (h2 : PySem.W.kitCls K cls (.ref C) = some b) (he : s.heap.get? e = some oe) (hcls : oe.cls = cls) (hq : Q b s) :
    wpAny M A (excMatches (.ref e) (.ref C)) Q E s := by
  obtain ⟨L1, L2, L3⟩ := PySem.W.kit_cls (M := M) X h2
  have sb := PySem.W.looks_subIn (M := M) X Z.sb
  obtain ⟨h, g, d, t, os⟩ := s
  have f := tc_notTuple
  unfold excMatches
  repeat (first | (with_reducible refine wpAny_loadPart_at he ?_; rw [hcls]) | with_reducible refine L1.at ?_ | with_reducible refine L2.at ?_ | with_reducible refine L3.at ?_ | with_reducible refine sb.at ?_ | wp_step)
  cases b <;> first | exact hq | (wp_walk; exact hq)
end
end L2
namespace L2
open PySem PySem.Spec PyProof.Rows
/-! ### try .. except C as n -/
abbrev Cx.pins (X : Cx) (pn : List (Addr × Obj)) : Cx := { X with pn := pn }
/-- within an except suite -/
abbrev Cx.inH (X : Cx) (ev : Value) (pn : List (Addr × Obj)) : Cx := { X with A := X.A.mark (some ev), calm := false, pn := pn, xe := fun _ _ => False }
/-- an exception has come to this frame -/
def Arr (X : Cx) (E : XK) (e : Value) (s' : Shared) : Prop := ∃ pins σ H s, Inv X pins σ H s ∧ CXE X.prog X.w X.base X.stack H s E e s'
theorem passT {X : Cx} {E : XK} : Passes (CXE X.prog X.w X.base) (X.wish (Arr X E)) E := fun pins σ H s _ _ I h => ⟨pins, σ, H, s, I.unwish, h⟩
section
variable {X : Cx} {pins ps : List (Addr × Obj)} {σ : St} {H : Hp} {s : Shared}
theorem Cx.Ok.pinsOk (ok : X.Ok) (pn : List (Addr × Obj)) : (X.pins pn).Ok := ⟨ok.mod, ok.kind, ok.glob, ok.blt, ok.above, ok.inj, ok.has, ok.cab, ok.hd, ok.frames, ok.stk, ok.exf, ok.bs, ok.bsz, ok.noex, ok.exfs, ok.funs, ok.frf⟩
theorem Cx.Ok.ofPins {pn : List (Addr × Obj)} (ok : (X.pins pn).Ok) : X.Ok := ⟨ok.mod, ok.kind, ok.glob, ok.blt, ok.above, ok.inj, ok.has, ok.cab, ok.hd, ok.frames, ok.stk, ok.exf, ok.bs, ok.bsz, ok.noex, ok.exfs, ok.funs, ok.frf⟩
theorem Inv.repin (I : Inv X pins σ H s) : Inv (X.pins (X.pn ++ pins)) [] σ H s := ⟨I.ok.pinsOk _, I.os, I.bare, I.base, I.loc, I.cell, I.free, I.freeC, fun p hp => I.pin p (by simpa using hp), I.hok, I.len⟩
theorem Inv.unpin (I : Inv (X.pins (X.pn ++ pins)) ps σ H s) : Inv X pins σ H s := ⟨I.ok.ofPins, I.os, I.bare, I.base, I.loc, I.cell, I.free, I.freeC, fun p hp => I.pin p (List.mem_append_left _ hp), I.hok, I.len⟩
theorem Inv.toH (I : Inv (X.pins (X.pn ++ pins)) ps σ H s) (ev : Value) : Inv (X.inH ev (X.pn ++ pins)) [] σ H s :=
  ⟨⟨I.ok.mod, I.ok.kind, I.ok.glob, I.ok.blt, I.ok.above, I.ok.inj, I.ok.has, I.ok.cab, fun z => (nomatch z), I.ok.frames, I.ok.stk, I.ok.exf, I.ok.bs, I.ok.bsz, I.ok.noex, I.ok.exfs, I.ok.funs, I.ok.frf⟩,
    I.os, I.bare, I.base, I.loc, I.cell, I.free, I.freeC, fun p hp => I.pin p (List.mem_append_left _ (by simpa using hp)), I.hok, I.len⟩
theorem Inv.ofH {ev : Value} (ok : X.Ok) (I : Inv (X.inH ev (X.pn ++ pins)) [] σ H s) : Inv X pins σ H s :=
  ⟨ok, I.os, I.bare, I.base, I.loc, I.cell, I.free, I.freeC, fun p hp => I.pin p (List.mem_append_left _ hp), I.hok, I.len⟩
/-- of the names nothing is known -/
theorem Inv.forget (I : Inv X pins σ H s) : Inv X pins (List.replicate X.N.length none) H s := by
  obtain ⟨m, hn, _⟩ := I.loc
  refine ⟨I.ok, I.os, I.bare, I.base, ⟨m, hn, fun i x v _ e => ?_⟩, I.cell, I.free, I.freeC, I.pin, I.hok, by simp⟩
  rw [List.getElem?_replicate] at e
  split at e <;> cases e
/-- the frame's map has turned -/
theorem Inv.nsTurned {h' : Heap} {t' : Nat} {m' : Str → Option Value} {σ' : St} (I : Inv X pins σ H s) (hs : Heap.SameBut X.env.locals s.heap h') (hn : h'.Ns X.env.locals m') (hl : σ'.length = X.N.length)
    (hv : ∀ (i : Nat) (x : Str) (v : V), X.N[i]? = some x → σ'[i]? = some (some v) → Vis X.env.scope x → ∃ u, RelV v u ∧ Look X.env h' m' x u) : Inv X pins σ' H { s with heap := h', toks := t' } := by
  have k : ∀ b o, b ≠ X.env.locals → s.heap.get? b = some o → h'.get? b = some o := fun b o n e => (hs.2 b n).trans e
  have neL : ∀ b o, X.s₀.heap.get? b = some o → b ≠ X.env.locals := fun b o e => Nat.ne_of_lt (Nat.lt_of_lt_of_le (Heap.lt_size e) I.ok.above)
  have B := I.base
  refine ⟨I.ok, I.os, I.bare, ⟨fun b o e n hb hx => k _ _ (neL b o e) (B.keep b o e n hb hx), fun b o e n hb hx => ?_, fun b o e n hx => B.free b o e n hx, fun b o e hx => ?_, B.tups, B.frzs, B.tbls⟩, ⟨m', hn, hv⟩, fun x c e => ?_, I.free, I.freeC, fun p hp => ?_, fun a o e => ?_, hl⟩
  · obtain ⟨sl, q⟩ := B.slot b o e n hb hx
    exact ⟨sl, k _ _ (neL b o e) q⟩
  · obtain ⟨o', q⟩ := B.there b o e hx
    exact ⟨o', k _ _ (neL b o e) q⟩
  · obtain ⟨v, o, ho, hd⟩ := I.cell x c e
    exact ⟨v, o, k _ _ (I.cne x c e) ho, hd⟩
  · obtain ⟨e, n, ne, nf, d⟩ := I.pin p hp
    exact ⟨k _ _ ne e, n, ne, nf, d⟩
  · refine (I.hok a o e).stay (fun b u hb q => k b u (fun z => ?_) q) (fun _ q => q) fun _ _ q => q
    rcases hb with hb | hb
    · rw [← hb, z, I.free] at e; cases e
    · rw [z, I.free] at hb; cases hb
/-- an untracked thing that is younger than the entry is tracked -/
theorem Inv.track {a : Addr} {o : HO} (I : Inv X pins σ H s) (hn : H a = none) (h0 : ∀ o, X.s₀.heap.get? a = some o → a ∈ X.ex) (hL : a ≠ X.env.locals) (hc : ∀ x c, X.env.cells.lookup x = some c → c ≠ a) (hp : ∀ p ∈ X.pn ++ pins, p.1 ≠ a) (ok : ObjOk X.prog X.w (upd H a o) s.heap a o) : Inv X pins σ (upd H a o) s := by
  have B := I.base
  refine ⟨I.ok, I.os, I.bare, ⟨B.keep, B.slot, fun b u e n hx => ?_, B.there, fun b xs e => ?_, fun b u v e => ?_, fun b ps e => ?_⟩, I.loc, I.cell, ?_, fun x c e => ?_, fun p hq => ?_, fun b u e => ?_, I.len⟩
  · rw [upd_ne (fun z => by subst z; exact hx (h0 u e))]; exact B.free b u e n hx
  · have := B.tups b xs e
    rw [upd_ne (ne_of_none this hn)]; exact this
  · have := B.frzs b u v e
    rw [upd_ne (ne_of_none this hn)]; exact this
  · obtain ⟨m, this⟩ := B.tbls b ps e
    exact ⟨m, by rw [upd_ne (ne_of_none this hn)]; exact this⟩
  · rw [upd_ne hL.symm]; exact I.free
  · rw [upd_ne (hc x c e)]; exact I.freeC x c e
  · obtain ⟨e, n, r⟩ := I.pin p hq
    exact ⟨e, by rw [upd_ne (hp p hq)]; exact n, r⟩
  · by_cases hb : b = a
    · subst hb; rw [upd_same] at e; cases e; exact ok
    · rw [upd_ne hb] at e
      exact (I.hok b u e).stay (fun _ _ _ q => q) (fun c q => by rw [upd_ne (ne_of_none q hn)]; exact q) fun c xs q => by rw [upd_ne (ne_of_none q hn)]; exact q
end
/-- a thing that no object of before is, is laid and tracked -/
theorem Inv.laidAt {X : Cx} {pins : List (Addr × Obj)} {σ : St} {H : Hp} {s : Shared} {h' : Heap} {t' : Nat} {a : Addr} {o : HO} (I : Inv X pins σ H s) (k : ∀ b u, s.heap.get? b = some u → h'.get? b = some u) (hn : s.heap.get? a = none) (ok : ObjOk X.prog X.w (upd H a o) h' a o) :
    Inv X pins σ (upd H a o) { s with heap := h', toks := t' } := by
  refine (I.kept (t' := t') k).track (I.hok.none hn) (fun u e => Classical.byContradiction fun z => ?_) (fun z => ?_) (fun x c e z => ?_) (fun p hp z => ?_) ok
  · obtain ⟨u', q⟩ := I.base.there a u e z
    rw [hn] at q; cases q
  · obtain ⟨m, ⟨u, es, ep, hu, _⟩, _⟩ := I.loc
    rw [← z, hn] at hu; cases hu
  · obtain ⟨v, u, hu, _⟩ := I.cell x c e
    rw [z, hn] at hu; cases hu
  · have hu := (I.pin p hp).1
    rw [z, hn] at hu; cases hu
theorem UnB.moved {fs : List Addr} {H H' : Hp} {h B h' h'' : Heap} (u : UnB fs H H' h B h') (up : h'.UpToSlots h'') (nf : ∀ b ∈ fs, ∀ o, h'.get? b = some o → ∀ vs, o.data ≠ .fields vs) : UnB fs H H' h B h'' :=
  ⟨u.keep, fun b o e n hb => by
    obtain ⟨sl, q⟩ := u.slot b o e n hb
    obtain ⟨sl', q'⟩ := up b _ q (nf b hb _ q)
    exact ⟨sl', q'⟩, u.free, u.there, fun b hb => by
    obtain ⟨o, q⟩ := u.tfs b hb
    obtain ⟨sl', q'⟩ := up b _ q (nf b hb _ q)
    exact ⟨_, q'⟩, u.tups, u.frzs, u.tbls⟩
/-- the name of the error, unbound behind the suite -/
theorem unbound {X : Cx} {pins : List (Addr × Obj)} {σ : St} {H : Hp} {s : Shared} {i : Nat} {n : Str} {pos : Pos} {E : Value → Shared → Prop} {Q : Unit → Shared → Prop} (I : Inv X pins σ H s) (hN : X.N.Nodup) (hi : X.N[i]? = some n) (hl : X.env.scope.names.lookup n = some .local)
    (k : ∀ s', Inv X pins (σ.set i none) H s' → Q () s') : wpAny (model X.prog X.w) X.A (do bindName X.env n .none; unbindBehindTheSuite X.env n pos) Q E s := by
  refine wpAny_bind ?_
  unfold bindName
  refine wpAny_bind (wpAny_holding (wpAny_point (wpAny_bind ?_)))
  refine store_ok I hN hi (.inl hl) (v := .non) rfl (fun s1 I1 => wpAny_point ?_) (.inr hl)
  unfold unbindBehindTheSuite
  refine wpAny_onRaise ?_
  obtain ⟨m, hn, hv⟩ := I1.loc
  have hlt : i < σ.length := by rw [I.len]; exact (List.getElem?_eq_some_iff.mp hi).1
  obtain ⟨u, ru, lk⟩ := hv i n .non hi (by simp [hlt]) (.inl hl)
  have hm : m n = some u := by
    rcases lk with ⟨_, q⟩ | ⟨q, _⟩
    · exact q
    · have hl' : X.env.kindOf n = some .local := hl
      rw [hl'] at q
      rcases q with q | q <;> cases q
  refine wpAny_unbindName_local hl hn hm (by rw [I.ok.kind]; rfl) fun h' u' hn' hs' => k _ ?_
  refine I1.nsTurned (t' := s1.toks) hs' hn' (by rw [List.length_set]; exact I.len) fun j x v e1 e2 e3 => ?_
  have hji : j ≠ i := fun z => by subst z; rw [List.getElem?_set_self hlt] at e2; cases e2
  have hxn : x ≠ n := fun z => by
    subst z
    have a1 := (List.getElem?_eq_some_iff.mp e1)
    have a2 := (List.getElem?_eq_some_iff.mp hi)
    obtain ⟨l1, g1⟩ := a1
    obtain ⟨l2, g2⟩ := a2
    exact hji ((List.getElem_inj hN).mp (g1.trans g2.symm))
  obtain ⟨u2, r2, l2⟩ := hv j x v e1 (by rw [List.getElem?_set_ne (Ne.symm hji)] at e2 ⊢; exact e2) e3
  refine ⟨u2, r2, ?_⟩
  rcases l2 with ⟨a, b⟩ | ⟨a, c, b, o, ho, hd⟩
  · exact .inl ⟨a, by simp only [hxn, if_false]; exact b⟩
  · exact .inr ⟨a, c, b, o, (hs'.2 c (I1.cne x c b)).trans ho, hd⟩
def tTry (K : PySem.W.Frag) (C : Addr) (n i : Nat) (tb : TS) (th : Addr → TS) (E : XK) : TS := fun D σ H => tb D σ H ∧ ∀ cls dx H', E cls dx H' → ∃ C2, cls = .ref C2 ∧ PySem.W.kitCls K (.ref C2) (.ref C) = some true ∧
  ∀ a, H' a = none → th a { nx := fun σ' H'' => D.nx (σ'.set i none) H'', rt := D.rt, bk := fun σ' H'' => D.bk (σ'.set i none) H'', ct := fun σ' H'' => D.ct (σ'.set i none) H'' } ((List.replicate n none).set i (some (.ref a))) (upd H' a (excO a C2 dx))
theorem ps_try {X : Cx} {body : List Stmt} {x n : Str} {np hpos pos : Pos} {b₀ : Stmt} {suite : List Stmt} {tb : TS} {th : Addr → TS} {C : Addr} {i : Nat} (E : XK) (hst : X.stack = X.env :: X.outer) (hfe : X.env.frame = some X.env.locals) (hex : X.ex = [])
    (hN : X.N.Nodup) (hi : X.N[i]? = some n) (hl : X.env.scope.names.lookup n = some .local) (hg : Gl X x) (hm : X.mg x = some (.ref C)) (Z : XCls X.K C)
    (hb : ∀ pn, PSs ((X.pins pn).wish (Arr (X.pins pn) E)) body tb) (hh : ∀ (a : Addr) pn, PSs (X.inH (.ref a) pn) (b₀ :: suite) (th a)) (hdb : (x == ("__debug__" : Str)) = false := by decide) :
    PS X (.Try body [.ExceptHandler (some (.Name x np)) (some n) (b₀ :: suite) hpos] [] [] pos) (tTry X.K C X.N.length i tb th E) := by
  intro pins s σ H D I ⟨h1, h2⟩
  refine wpAny_Try_except ?_
  refine wpAny_mono (hb (X.pn ++ pins) [] s σ H D (I.repin.wish _) h1) (fun f s1 q => ?_) (fun e s1 q => ?_)
  · cases f with
    | next => obtain ⟨σ', H', I', q⟩ := q; exact wpAny_execs_nil ⟨σ', H', I'.unwish.unpin, q⟩
    | brk => obtain ⟨σ', H', I', q⟩ := q; exact ⟨σ', H', I'.unwish.unpin, q⟩
    | cont => obtain ⟨σ', H', I', q⟩ := q; exact ⟨σ', H', I'.unwish.unpin, q⟩
    | ret v => obtain ⟨u, σ', H', I', r, q⟩ := q; exact ⟨u, σ', H', I'.unwish.unpin, r, q⟩
  · obtain ⟨pins2, σ2, H2, s2, I2, a, cls, dx, H3, B, rfl, hos, hbare, fl, sb, hok, un, ha, hE⟩ := q
    obtain ⟨C2, rfl, hk, hth⟩ := h2 cls dx H3 hE
    have fr : X.A.frames = some (X.env :: X.outer) := by rw [← hst]; exact I.ok.frames
    have hst' : (X.pins (X.pn ++ pins)).stack = X.env :: X.outer := hst
    rw [hst'] at fl un
    have nf : ∀ {h : Heap} {fv : Value}, FlyX B (X.env :: X.outer) a (.ref C2) dx fv h → ∀ b ∈ frs (X.env :: X.outer), ∀ o, h.get? b = some o → ∀ vs, o.data ≠ .fields vs := fun f b hb o e => by
      obtain ⟨_, o', ho', hd⟩ := f.2.2.1.mem hb
      rw [ho'] at e; cases e; exact hd
    have new : s2.heap.get? a = none := by
      cases q : s2.heap.get? a with
      | none => rfl
      | some o =>
        exfalso
        obtain ⟨ob, vs, g1, _, _, g3, _⟩ := fl.rec
        by_cases hf : a ∈ frs (X.env :: X.outer)
        · exact nf fl a hf ob g1 vs g3
        · obtain ⟨o', q'⟩ := un.there a o q hf
          rw [fl.2.1] at q'; cases q'
    refine noteX fr hfe fl fun h4 f4 u4 => ?_
    refine landX (s := { s1 with heap := h4 }) f4 fun h5 f5 u5 => ?_
    have un5 := (un.moved u4 (nf fl)).moved u5 (nf f4)
    have I5 : Inv (X.pins (X.pn ++ pins)) pins2 σ2 H3 { s1 with heap := h5 } := I2.call' (s' := { s1 with heap := h5 }) (ch := []) hos (by rw [hst']; exact un5.un f5.1) (hok.kept f5.1) hbare (fun b z => absurd z (by simp))
    have J5 := I5.forget.toH (.ref a)
    obtain ⟨ob5, g5, c5⟩ := f5.at
    refine wpAny_handleBy_cons (codeAny_handlers_test ?_) (by intro q; cases q)
    refine ld_glob J5 hg hm ?_ hdb
    refine excMatches_kit J5.kIn Z hk g5 c5 ?_
    refine codeAny_handlers_suite_as ?_
    refine landX (s := { s1 with heap := h5 }) f5 fun h6 f6 u6 => ?_
    have un6 := un5.moved u6 (nf f5)
    have I6 : Inv (X.pins (X.pn ++ pins)) pins2 σ2 H3 { s1 with heap := h6 } := I2.call' (s' := { s1 with heap := h6 }) (ch := []) hos (by rw [hst']; exact un6.un f6.1) (hok.kept f6.1) hbare (fun b z => absurd z (by simp))
    have J6 := I6.forget.toH (.ref a)
    obtain ⟨ob6, vs6, g6, c6, x6, d6, z6⟩ := f6.rec
    have J7 : Inv (X.inH (.ref a) (X.pn ++ pins)) [] (List.replicate X.N.length none) (upd H3 a (excO a C2 dx)) { s1 with heap := h6 } := by
      refine J6.track ha ?_ ?_ (fun y c e z => ?_) (fun p hp z => ?_) ⟨⟨ob6, vs6, g6, c6, x6, d6, z6⟩, ⟨ob6, g6⟩, fun k1 k2 ⟨o, vs, q1, q2⟩ st => ⟨o, vs, st _ q1, q2⟩⟩
      · intro o q
        obtain ⟨o', q'⟩ := I2.base.there a o q (by show a ∉ X.ex; rw [hex]; simp)
        rw [new] at q'; cases q'
      · intro z
        obtain ⟨m, ⟨o, es, ep, ho, _⟩, _⟩ := I2.loc
        have ho : s2.heap.get? X.env.locals = some o := ho
        rw [← z, new] at ho; cases ho
      · obtain ⟨v, o, ho, _⟩ := I2.cell y c e
        rw [z, new] at ho; cases ho
      · have ho := (I2.pin p (List.mem_append_left _ (by simpa using hp))).1
        rw [z, new] at ho; cases ho
    refine store_ok (X := X.inH (.ref a) (X.pn ++ pins)) J7 hN hi (.inl hl) (v := .ref a) rfl (fun s7 I8 => ?_) (.inr hl)
    refine wpAny_mono (hh a (X.pn ++ pins) [] s7 _ _ _ I8 (hth a ha)) (fun f s8 q => ?_) (fun _ _ z => z.elim)
    cases f with
    | next => obtain ⟨σ', H', I', q⟩ := q; exact unbound (I'.ofH I.ok) hN hi hl fun s9 I9 => ⟨_, _, I9, q⟩
    | brk => obtain ⟨σ', H', I', q⟩ := q; exact unbound (I'.ofH I.ok) hN hi hl fun s9 I9 => ⟨_, _, I9, q⟩
    | cont => obtain ⟨σ', H', I', q⟩ := q; exact unbound (I'.ofH I.ok) hN hi hl fun s9 I9 => ⟨_, _, I9, q⟩
    | ret v => obtain ⟨u, σ', H', I', r, q⟩ := q; exact unbound (I'.ofH I.ok) hN hi hl fun s9 I9 => ⟨u, _, _, I9, r, q⟩
end L2
namespace L2
open PySem PySem.Spec PyProof.Rows
/-! ### the end of a list, met while an error is handled -/
theorem entry_unchain : entryFor table "proto.unchain" = some Builtin.«proto.unchain» := entryFor_of_fast (by kernel_rfl)
/-- the handled error's record: no context -/
def NoCtx (a : Addr) (h : Heap) : Prop := ∃ o vs, h.get? a = some o ∧ o.data = .fields vs ∧ vs[2]? = some .none
section
variable {prog : Program} {w : World} {A : Around} {E : Value → Shared → Prop} {s : Shared}
theorem raiseNew_H {α : Type} {a e : Addr} {oe : Obj} {vs : Array Value} {Q : α → Shared → Prop} (hh : A.handled = some (.ref a)) (na : NoCtx a s.heap) (ne : a ≠ e) (ge : s.heap.get? e = some oe) (de : oe.data = .fields vs) (h2 : 2 < vs.size)
    (k : E (.ref e) { s with heap := s.heap.update e (Obj.mapFields (·.setIfInBounds 2 (.ref a))) }) : wpAny (model prog w) A (raiseNew (α := α) (.ref e)) Q E s := by
  obtain ⟨o, ws, ga, da, w2⟩ := na
  unfold raiseNew
  refine wpAny_bind (wpAny_handled ?_)
  rw [hh]
  dsimp only
  rw [if_pos (show (Value.ref a != Value.ref e) = true by simp [ne])]
  refine wpAny_bind (wpAny_holding (wpAny_runValue (codeAny_builtin entry_unchain ?_)))
  unfold Builtin.«proto.unchain»
  refine wpAny_bind (wpAny_field ga da w2 ?_)
  rw [if_pos (by rfl)]
  refine wpAny_bind (wpAny_pure ?_)
  refine wpAny_pure ?_
  show wpAny _ A _ _ _ _
  unfold updateField
  refine wpAny_bind (wpAny_bind (wpAny_load ge ?_))
  rw [de]
  dsimp only
  rw [if_pos h2]
  exact wpAny_update ge (wpAny_throw k)
theorem next_end_H {it l a : Addr} {i : Nat} {items : Array Value} {Q : Option Value → Shared → Prop} (hh : A.handled = some (.ref a)) (hit : s.heap.IsListIter it l i) (hl : s.heap.IsList l items) (hx : items[i]? = none) (na : NoCtx a s.heap) (hai : a ≠ it)
    (hQ : ∀ h', Heap.ExtBut it s.heap h' → Q none { s with heap := h' }) : wpAny (model prog w) A (pyNext (.ref it)) Q E s := by
  obtain ⟨o, ho, hc, hd⟩ := id hit
  obtain ⟨ol, hol, _, nl, hdl⟩ := hl
  unfold pyNext
  refine wpAny_bind (wpAny_attempt (wpAny_callSpecial?_slot (name := Str.ofString "__next__") hit.typeIs slot_listiter_next (wpAny_call_entry slot_listiter_next hit.typeIs entry_listiter_next ?_ (args_listiter_next _))))
  show wpAny _ _ (field (.ref it) 0 >>= _) _ _ s
  refine wpAny_bind (wpAny_field ho hd (x := .ref l) rfl ?_)
  show wpAny _ _ (if (Value.ref l == Value.none) = true then _ else _) _ _ s
  rw [if_neg (by intro z; cases z)]
  show wpAny _ _ (field (.ref it) 1 >>= _) _ _ s
  refine wpAny_bind (wpAny_field ho hd (x := .int i 0) rfl (wpAny_bind (wpAny_seqItems hol hdl ?_)))
  simp only [Int.toNat_natCast, hx]
  refine wpAny_bind (wpAny_rule (wpAny_bind (wpAny_setField ho hd (by simp) (wpAny_bind ?_))))
  simp only [newExc, newTuple]
  refine wpAny_bind (wpAny_newObj_type ?_ (by size_fits))
  refine wpAny_bind (m := firstArgMember _ _) (wpAny_of_eq (a := Value.none) (by first | rfl | (simp only [firstArgMember]; rfl)) ?_)
  refine wpAny_newObj_type ?_ (by size_fits)
  obtain ⟨oa, vs, ga, da, v2⟩ := na
  have ga1 : (s.heap.update it (Obj.mapFields (·.setIfInBounds 0 Value.none))).get? a = some oa := (Heap.get?_update_other _ _ (Ne.symm hai)).trans ga
  have ga2 := Heap.get?_push_of_some ({ cls := .type "tuple", dict := none, data := .seq ([] : List Value).toArray } : Obj) ga1
  refine raiseNew_H (A := A.in1) hh (a := a) ⟨oa, vs, Heap.get?_push_of_some _ ga2, da, v2⟩ (Nat.ne_of_lt (Heap.lt_size ga2)) (Heap.get?_push_size _ rfl) rfl (by simp; omega) ?_
  refine wpAny_bind (wpAny_isInstance (T := "StopIteration") (b := true) ⟨_, Heap.get?_update_self _ (Heap.get?_push_size _ rfl) rfl, rfl⟩ isSubtype_stop ?_)
  refine wpAny_pure (hQ _ fun b ob nb q => ?_)
  have q1 : (s.heap.update it (Obj.mapFields (·.setIfInBounds 0 Value.none))).get? b = some ob := (Heap.get?_update_other _ _ (Ne.symm nb)).trans q
  have q2 := Heap.get?_push_of_some ({ cls := .type "tuple", dict := none, data := .seq ([] : List Value).toArray } : Obj) q1
  exact (Heap.get?_update_other _ _ (fun z => absurd (Heap.lt_size q2) (by rw [← z]; exact Nat.lt_irrefl _))).trans (Heap.get?_push_of_some _ q2)
theorem walksH {a : Addr} (hh : A.handled = some (.ref a)) (I ax : Addr) (hne : ax ≠ I) (hai : a ≠ I) (items : Array Value) :
    Walks prog w A I [I, ax, a] [I] items.size (fun i v => items[i]? = some v) (fun i h => (h.IsListIter I ax i ∧ h.IsList ax items) ∧ NoCtx a h) where
  sub := fun b hb => by simp at hb; simp [hb]
  frame := fun _ _ _ st hk => ⟨⟨st.1.1.at fun o e => hk I (by simp) o e, st.1.2.at fun o e => hk ax (by simp) o e⟩, let ⟨o, vs, g1, g2⟩ := st.2; ⟨o, vs, hk a (by simp) o g1, g2⟩⟩
  item := fun i s Q E hi st hQ => by
    refine wpAny_pyNext_list_item st.1.1 st.1.2 (x := items[i]) (by simp [hi]) fun h' hit' hs' => ?_
    refine hQ _ h' s.toks (by simp [hi]) ⟨⟨hit', st.1.2.extBut hs'.extBut hne⟩, ?_⟩ fun b o hb e => hs'.extBut b o (fun h => hb (by simp [h])) e
    obtain ⟨o, vs, g1, g2⟩ := st.2
    exact ⟨o, vs, hs'.extBut a o hai g1, g2⟩
  done := fun s Q E st hQ => next_end_H hh st.1.1 st.1.2 (by simp) st.2 hai fun h' he' => hQ h' s.toks fun b o hb e => he' b o (fun h => hb (by simp [h])) e
  self := fun _ _ _ _ st hQ => wpAny_pyIter_listiter st.1.1 hQ
end
section
variable {X : Cx}
theorem call_anyH {a : Addr} (hh : X.A.handled = some (.ref a)) : CallR X (.builtin "any") (fun xs H Q => ∃ (p C : Addr) (dx : Option Addr) (bs : List Bool), xs = [.ref p] ∧ SqL X.K H p (bs.map V.bl) ∧ H a = some (excO a C dx) ∧ Q (.bl (bs.any id)) H) := by
  intro pins s σ H xs us Q I r h
  obtain ⟨p, C, dx, bs, rfl, hp, ha, q⟩ := h
  obtain ⟨u, rfl, ru⟩ := vals1 r
  cases ru
  obtain ⟨its, rv, ⟨o, n, ho, hcl, _, hd⟩, hz⟩ := I.list hp
  obtain ⟨⟨oa, va, g1, _, _, g3, g4⟩, _, _⟩ : ObjOk X.prog X.w H s.heap a (excO a C dx) := I.hok a _ ha
  have hl : s.heap.IsList p its.toArray := ⟨o, ho, hcl, n, hd⟩
  have hlt : p < s.heap.objs.size := Heap.lt_size ho
  have hlt2 : a < s.heap.objs.size := Heap.lt_size g1
  refine call_any_walk (wpAny_pyIter_list hl ?_)
  refine ⟨s.heap.objs.size, [s.heap.objs.size, p, a], [s.heap.objs.size], its.toArray.size, _, _, fun i => (bs[i]?).getD false, rfl, walksH (A := X.A.in1) hh _ p (Nat.ne_of_lt hlt) (Nat.ne_of_lt hlt2) its.toArray,
    ⟨⟨⟨_, Heap.get?_push_size _ rfl, rfl, rfl⟩, hl.push _⟩, oa, va, Heap.get?_push_of_some _ g1, g3, g4⟩, fun i v s' Q' E' hP hQ => ?_, fun h' tk hk => ?_⟩
  · obtain ⟨b, e, rfl⟩ := rv.bools i v (by simpa using hP)
    simp only [e, Option.getD_some] at hQ
    exact wpAny_truthy_bool hQ
  · have e : ((List.range its.toArray.size).any fun i => (bs[i]?).getD false) = bs.any id := by
      rw [List.size_toArray, ← rv.length, List.length_map]; exact LSm.range_any bs
    rw [e]
    exact ⟨.bl _, H, I.kept (LSm.kept_iter hk), rfl, q⟩
/-- isinstance(error, C'), C' a class of the text's own -/
theorem call_isinstX : CallR X (.builtin "isinstance") (fun xs H Q => ∃ a C dx C' b, xs = [.ref a, .ref C'] ∧ H a = some (excO a C dx) ∧ XCls X.K C ∧ PySem.W.kitOne X.K (.ref C) (.ref C') = some b ∧ Q (.bl b) H) := by
  intro pins s σ H xs us Q I r h
  obtain ⟨a, C, dx, C', b, rfl, ha, Z, e, q⟩ := h
  obtain ⟨u, c, rfl, ru, rc⟩ := vals2 r
  cases ru; cases rc
  exact isinst_exc I ha Z e fun tk => ⟨.bl b, H, I.tok _, rfl, q⟩
theorem call_isinstXT : CallR X (.builtin "isinstance") (fun xs H Q => ∃ a C dx n b, xs = [.ref a, .ty n] ∧ H a = some (excO a C dx) ∧ XCls X.K C ∧ PySem.W.kitOne X.K (.ref C) (.type n) = some b ∧ Q (.bl b) H) := by
  intro pins s σ H xs us Q I r h
  obtain ⟨a, C, dx, n, b, rfl, ha, Z, e, q⟩ := h
  obtain ⟨u, c, rfl, ru, rc⟩ := vals2 r
  cases ru; cases rc
  exact isinst_exc I ha Z e fun tk => ⟨.bl b, H, I.tok _, rfl, q⟩
theorem call_anyHK {K : PySem.W.Frag} {a : Addr} (h : X.K = K) (hh : X.A.handled = some (.ref a)) : CallR X (.builtin "any") (fun xs H Q => ∃ (p C : Addr) (dx : Option Addr) (bs : List Bool), xs = [.ref p] ∧ SqL K H p (bs.map V.bl) ∧ H a = some (excO a C dx) ∧ Q (.bl (bs.any id)) H) := by subst h; exact call_anyH hh
theorem call_isinstXK {K : PySem.W.Frag} (h : X.K = K) : CallR X (.builtin "isinstance") (fun xs H Q => ∃ a C dx C' b, xs = [.ref a, .ref C'] ∧ H a = some (excO a C dx) ∧ XCls K C ∧ PySem.W.kitOne K (.ref C) (.ref C') = some b ∧ Q (.bl b) H) := by subst h; exact call_isinstX
theorem call_isinstXTK {K : PySem.W.Frag} (h : X.K = K) : CallR X (.builtin "isinstance") (fun xs H Q => ∃ a C dx n b, xs = [.ref a, .ty n] ∧ H a = some (excO a C dx) ∧ XCls K C ∧ PySem.W.kitOne K (.ref C) (.type n) = some b ∧ Q (.bl b) H) := by subst h; exact call_isinstXT
end
theorem kitOne_same (K : PySem.W.Frag) (v : Addr) : PySem.W.kitOne K (.ref v) (.ref v) = some true := by unfold PySem.W.kitOne; rw [if_pos (by simp)]
theorem kitOne_ne {K : PySem.W.Frag} {t c : Value} {b : Bool} (h : (t == c) = false) (e : PySem.W.kitCls K t c = some b) : PySem.W.kitOne K t c = some b := by unfold PySem.W.kitOne; rw [if_neg (by rw [h]; decide)]; exact e
end L2
namespace L2
open PySem PySem.Spec PyProof.Rows PySem.Builtin PySem.Builtin.ObjectAttr
/-! ### error classes of the text's own with an own __init__: the name laid, the error made, the name read -/
def xTail : List Value := [.type "ValueError", .type "Exception", .type "BaseException", .type "object"]
def xOver : List Value → Bool
  | [] => false
  | v :: r => (v :: r) == xTail || match v with
    | .ref _ => xOver r
    | _ => false
theorem refuse_x (self : Value) : ∀ {l : List Value}, xOver l = true → refuseLoop self "__setattr__" l = pure ()
  | [], e => by cases e
  | v :: r, e => by
    unfold xOver at e
    rcases Bool.or_eq_true_iff.mp e with q | q
    · rw [beq_iff_eq.mp q]; exact PySem.F.store_ValueError.passes self
    · split at q
      · rw [refuseLoop_ref]; exact refuse_x self q
      · cases q
theorem xover_has : ∀ {l : List Value}, xOver l = true → l.contains (.type "object") = true
  | [], e => by cases e
  | v :: r, e => by
    unfold xOver at e
    rcases Bool.or_eq_true_iff.mp e with q | q
    · rw [beq_iff_eq.mp q]; rfl
    · split at q
      · rw [List.contains_cons, xover_has q, Bool.or_true]
      · cases q
/-- what an error class must have to be given a name -/
structure XSto (K : PySem.W.Frag) (C : Addr) (f : Str) : Prop where
  sa : PySem.W.findIn K (.ref C) "__setattr__" = some (some (.builtin "object.__setattr__"))
  na : PySem.W.findIn K (.ref C) f = some none
  po : ((PySem.W.clsIn K C).any fun cd => xOver cd.mro) = true
  hd : PySem.W.hasDictIn K C = true
section
variable {prog : Program} {w : World} {A : Around} {R : Result → Shared → Prop} {s : Shared} {K : PySem.W.Frag} {x C : Addr} {ox : Obj} {vs : Array Value} {name : Str} {tk : Tok} {v : Value}
theorem xsa (X : K.In s.heap) (hx : s.heap.get? x = some ox) (hcl : ox.cls = .ref C) (hd : ox.dict = none) (dt : ox.data = .fields vs) (Z : XSto K C name)
    (h : ∀ h' tk', h'.get? x = some { ox with dict := some s.heap.objs.size } → h'.Ns1 s.heap.objs.size (fun y => if y = name then some v else none) → (∀ b o, b ≠ x → s.heap.get? b = some o → h'.get? b = some o) → R (.ok (.ret .none)) { s with heap := h', toks := tk' }) :
    codeAny (model prog w) A (.call (.builtin "object.__setattr__") ⟨[.ref x, .str name tk, v], []⟩) R s := by
  have SF := PySem.F.store_object
  obtain ⟨cd, hc, ho⟩ := PySem.W.any_some Z.po
  obtain ⟨cd', hc', hd'⟩ := PySem.W.any_some Z.hd
  obtain rfl : cd = cd' := Option.some.inj (hc.symm.trans hc')
  have ne : cd.mro.isEmpty = false := by cases q : cd.mro with | nil => rw [q] at ho; cases ho | cons _ _ => rfl
  have I : PySem.W.InstAt s.heap x ox C none := ⟨hx, hcl, by unfold PySem.W.notCls; rw [dt], by rw [hd]; trivial⟩
  have sub : PySem.W.Looks (model prog w) s.heap (isInstance (.ref x) (.type "object")) true := I.type.andThen (PySem.W.looks_mroIn X (by unfold PySem.W.mroIn; rw [hc, Option.bind_some, if_neg (by rw [ne]; decide), xover_has ho]))
  refine codeAny_call_builtin SF.slot.plain SF.entry (@PySem.W.check_slot (model prog w) _ _ s "object.__setattr__" "object" "__setattr__" (.ref x) [.str name tk, v] [] _ SF.kind SF.split sub (SF.args (.ref x) (.str name tk) v) ?_)
  have hm : PySem.W.Looks (model prog w) s.heap (mroOf (.ref C)) cd.mro := (PySem.W.looks_clsIn X hc).andThen .now
  rw [PySem.W.osa_eq, refuse_eq]
  refine wpAny_bind (wpAny_bind (I.type.here (wpAny_bind (hm.here ?_))))
  rw [refuse_x _ ho]
  refine wpAny_pure (wpAny_bind (I.type.here (wpAny_bind ((PySem.W.looks_findIn X Z.na).here (wpAny_bind (wpAny_pure ?_))))))
  obtain ⟨oc, odi, oda, osl⟩ := ox
  dsimp only at hcl hd dt
  subst hcl hd dt
  refine wpAny_bind (wpAny_pure (wpAny_bind (wpAny_bind (wpAny_loadPart hx (wpAny_bind ((PySem.W.looks_clsIn X hc).here ?_))))))
  rw [hd']
  have hx₁ : (s.heap.push { cls := .type "dict", data := .dict #[] }).get? x = some ⟨.ref C, none, .fields vs, osl⟩ := Heap.get?_push_of_some _ hx
  have hxs : x ≠ s.heap.objs.size := Nat.ne_of_lt (Heap.lt_size hx)
  refine wpAny_bind (wpAny_alloc' ?_)
  refine wpAny_bind (wpAny_update' hx₁ ?_)
  refine wpAny_pure ?_
  have hgd : ((s.heap.push { cls := .type "dict", data := .dict #[] }).update x fun o => { cls := o.cls, dict := some s.heap.objs.size, data := o.data, slots := o.slots }).get? s.heap.objs.size
      = some { cls := .type "dict", data := .dict #[] } :=
    (Heap.get?_update_ne _ _ _ _ hxs.symm).trans (Heap.get?_push_at rfl rfl)
  have hnd : ((s.heap.push { cls := .type "dict", data := .dict #[] }).update x fun o => { cls := o.cls, dict := some s.heap.objs.size, data := o.data, slots := o.slots }).Ns s.heap.objs.size (fun _ => none) :=
    ⟨_, #[], _, hgd, rfl, fun e he => absurd he (by simp), fun _ => rfl⟩
  show wpAny _ _ (storeInDict s.heap.objs.size (.str name tk) name v) _ _ _
  unfold storeInDict newKeyGuard
  refine wpAny_bind (wpAny_pure (wpAny_bind (wpAny_nsSet1 (Heap.Ns1.of_empty hnd) fun h' hn' hs => ?_)))
  obtain ⟨oD, esD, epD, hoD, hdD, hcD⟩ := hn'.count (Within.cons name v Within.nil)
  refine wpAny_bind (wpAny_lookBehind hoD (by rw [hdD]; exact pastItsLine_dict (Nat.le_trans hcD (by rw [List.length_cons, List.length_nil, sizeLine_eq]; omega))) ?_)
  refine wpAny_pure (h h' _ ?_ hn' fun b ob hbx hb => ?_)
  · exact (hs.2 x hxs).trans (Heap.get?_update_self _ hx₁ rfl)
  · exact (hs.2 b (Nat.ne_of_lt (Heap.lt_size hb))).trans ((Heap.get?_update_ne _ _ _ _ hbx).trans (Heap.get?_push_of_some _ hb))
end
/-- an error of the class at C that is being made -/
def excN (a C : Addr) (dx : Option Addr) : HO := .ext fun h => ∃ o vs, h.get? a = some o ∧ o.cls = .ref C ∧ o.dict = dx ∧ o.data = .fields vs ∧ vs[1]? = some .none ∧ vs[2]? = some .none
theorem excN_ok {P : Program} {w : World} {H : Hp} {h : Heap} {a C : Addr} {dx : Option Addr} {o : Obj} {vs : Array Value} (h1 : h.get? a = some o) (h2 : o.cls = .ref C) (h3 : o.dict = dx) (h4 : o.data = .fields vs) (h5 : vs[1]? = some .none) (h6 : vs[2]? = some .none) : ObjOk P w H h a (excN a C dx) :=
  ⟨⟨o, vs, h1, h2, h3, h4, h5, h6⟩, ⟨o, h1⟩, fun _ _ ⟨o, vs, q, r⟩ st => ⟨o, vs, st _ q, r⟩⟩
section
variable {X : Cx} {pins : List (Addr × Obj)} {σ : St} {H : Hp} {s : Shared} {a C : Addr} {f : Str} {A : Around} {E : Value → Shared → Prop}
theorem setattrX_ok {y : V} {u : Value} {Q : Unit → Shared → Prop} (I : Inv X pins σ H s) (e : H a = some (excN a C none)) (Z : XSto X.K C f) (ry : RelV y u)
    (h : ∀ d s', H d = none → d ≠ a → Inv X pins σ (upd (upd H a (excN a C (some d))) d (.xd [(f, y)])) s' → Q () s') : wpAny (model X.prog X.w) A (setAttr (.ref a) f u) Q E s := by
  obtain ⟨⟨ox, vs, g1, g2, g3, g4, g5, g6⟩, _, _⟩ : ObjOk X.prog X.w H s.heap a (excN a C none) := I.hok a _ e
  have J : PySem.W.InstAt s.heap a ox C none := ⟨g1, g2, by unfold PySem.W.notCls; rw [g4], by rw [g3]; trivial⟩
  refine PySem.W.set_plain I.kIn J Z.sa (xsa (s := { s with toks := s.toks + 1 }) I.kIn g1 g2 g3 g4 Z fun h' tk' k1 k2 k3 => ?_)
  have hda : s.heap.objs.size ≠ a := Nat.ne_of_gt (Heap.lt_size g1)
  have hdn : H s.heap.objs.size = none := I.hok.fresh (Nat.le_refl _)
  have I1 : Inv X pins σ (upd H a (excN a C (some s.heap.objs.size))) { s with heap := h', toks := tk' } :=
    I.write (x := a) (e := a) (t' := tk') (by rw [e]; exact True.intro) (.inl rfl) (fun b u hb z => k3 b u hb z) ⟨_, k1⟩ (excN_ok k1 g2 rfl g4 g5 g6)
  refine h s.heap.objs.size _ hdn hda (I1.track (by rw [upd_ne hda]; exact hdn) (fun o q => ?_) ?_ (fun x c q z => ?_) (fun p hp z => ?_) ⟨_, k2, fun g => ?_⟩)
  · exact absurd (Nat.lt_of_lt_of_le (Heap.lt_size q) I.sz) (Nat.lt_irrefl _)
  · exact Nat.ne_of_gt I.lt
  · obtain ⟨v, o, ho, _⟩ := I.cell x c q
    exact absurd (Heap.lt_size ho) (by rw [z]; exact Nat.lt_irrefl _)
  · exact absurd (Heap.lt_size (I.pin p hp).1) (by rw [z]; exact Nat.lt_irrefl _)
  · show RelO (List.lookup g [(f, y)]) (if g = f then some u else none)
    by_cases q : g = f
    · subst q
      rw [if_pos rfl]
      simp only [List.lookup, beq_self_eq_true]
      exact ry
    · rw [if_neg q]
      have : (g == f) = false := beq_false_of_ne q
      simp only [List.lookup, this]
      trivial
end
/-- e.f = value of an error that is being made, the first name -/
def sFldX (K : PySem.W.Frag) (ta tv : TE) (f : Str) : TS := fun D σ H => tv σ H fun y H1 => ta σ H1 fun x H2 => ∃ a C, x = .ref a ∧ H2 a = some (excN a C none) ∧ XSto K C f ∧ ∀ d, H2 d = none → d ≠ a → D.nx σ (upd (upd H2 a (excN a C (some d))) d (.xd [(f, y)]))
section
variable {X : Cx} {o e value : Expr} {f : Str} {pos pos' tpos : Pos} {ta tv : TE}
theorem ps_fldX (ha : PE X o ta) (hv : PE X value tv) (hs : swapsWith value (some (.Attribute o f pos')) pos.line X.env = pure false) : PS X (.Assign [.Attribute o f pos'] value pos) (sFldX X.K ta tv f) := by
  intro pins s σ H D I h
  refine plainObj_wpAny_Assign_Attribute (thn (hv pins s σ H _ I h) fun u s1 ⟨y, H1, I1, ry, q⟩ => thn (ha pins s1 σ H1 _ I1 q) fun ov s2 ⟨x, H2, I2, rx, a, C, ex, ea, Z, q2⟩ => ?_) hs
  subst ex
  obtain rfl : ov = Value.ref a := rx
  exact setattrX_ok I2 ea Z ry fun d s3 hd hda I3 => ⟨σ, _, I3, q2 d hd hda⟩
end
/-! ### error.name -/
structure XGet (K : PySem.W.Frag) (C : Addr) (f : Str) : Prop where
  x : XCls K C
  na : PySem.W.findIn K (.ref C) f = some none
  hd : PySem.W.hasDictIn K C = true
section
variable {prog : Program} {w : World} {A : Around} {E : Value → Shared → Prop} {h : Heap} {g : Array GenState} {d : Drawn} {t : Nat} {os : OsState} {a C : Addr} {o od : Obj} {K : PySem.W.Frag} {name : Str} {v : Value}
theorem xf_entry {tk : Tok} {Q : PySem.Fin → Shared → Prop} (X : K.In h) (Z : XGet K C name) (I : PySem.W.InstAt h a o C (some od)) (hl : PySem.W.lookIn name od = some (some v)) (hq : Q (.done (.ret v)) ⟨h, g, d, t, os⟩) :
    wpAny (model prog w) A (Builtin.«object.__getattribute__» ⟨[.ref a, .str name tk], []⟩) Q E ⟨h, g, d, t, os⟩ := by
  have L0 := I.type (M := model prog w)
  have L1 := PySem.W.looks_find (M := model prog w) X I (PySem.W.findObj_own Z.hd Z.na rfl hl)
  unfold Builtin.«object.__getattribute__»
  repeat (any_goals (first | assumption | with_reducible refine L0.at ?_ | with_reducible refine L1.at ?_ | wp_step))
theorem xf_get {expr : Bool} {Q : Value → Shared → Prop} (X : K.In h) (Z : XGet K C name) (I : PySem.W.InstAt h a o C (some od)) (hl : PySem.W.lookIn name od = some (some v)) (hv : PySem.W.handedIn v = true) (hq : Q v ⟨h, g, d, t + 1, os⟩) :
    wpAny (model prog w) A (getAttr (.ref a) name expr) Q E ⟨h, g, d, t, os⟩ := by
  have hx := I.at_
  have hc := I.cls
  have f3 := F.attr_ValueError.ga.bind (.ref a)
  have ga := PySem.W.looks_findIn (M := model prog w) X Z.x.ga
  have gn := PySem.W.looks_findIn (M := model prog w) X Z.x.gn
  have hx2 : (Value.builtin "BaseException.__getattribute__" == Value.builtin "object.__getattribute__") = false := by decide +kernel
  have hx1 : (onTheHeap (Value.ref C) && Value.builtin "BaseException.__getattribute__" == Value.builtin "object.__getattribute__") = false := by rw [hx2]; rfl
  unfold getAttr
  repeat (any_goals (first | assumption | (with_reducible refine wpAny_loadPart_at hx ?_; rw [hc]) | with_reducible refine ga.at ?_ | with_reducible refine gn.at ?_ | wp_step))
  rw [if_neg (by rw [show onTheHeap (Value.builtin "BaseException.__getattribute__") = false from rfl, Bool.and_false]; decide)]
  repeat (any_goals (first | assumption | (with_reducible refine wpAny_loadPart_at hx ?_; rw [hc]) | wp_step))
  refine codeAny_call_builtin F.attr_ValueError.ga.plain F.entry_bexc_ga (xc_check X Z.x hx hc (xf_entry X Z I hl ?_))
  have fin : wpAny (model prog w) A (handedOut v) Q E ⟨h, g, d, t + 1, os⟩ := by rw [PySem.W.handedOut_of hv]; exact wpAny_pure hq
  repeat (any_goals (first | assumption | wp_step))
end
def tFldX (K : PySem.W.Frag) (ta : TE) (f : Str) : TE := fun σ H Q => ta σ H fun x H1 => ∃ a C d fs v, x = .ref a ∧ H1 a = some (excO a C (some d)) ∧ H1 d = some (.xd fs) ∧ XGet K C f ∧ fs.lookup f = some v ∧ Q v H1
theorem pe_fldX {X : Cx} {e : Expr} {f : Str} {pos : Pos} {ta : TE} (he : PE X e ta) (hb : attributeBase e f X.env (eval e X.env) = eval e X.env) : PE X (.Attribute e f pos) (tFldX X.K ta f) := by
  intro pins s σ H Q I h
  refine attr_of hb (thn (he pins s σ H _ I h) fun u s1 ⟨x, H1, I1, rx, a, C, d, fs, v, ex, ea, ed, Z, l, q⟩ => ?_)
  subst ex
  obtain rfl : u = Value.ref a := rx
  obtain ⟨⟨o, vs, g1, g2, g3, g4, _⟩, _, _⟩ : ObjOk X.prog X.w H1 s1.heap a (excO a C (some d)) := I1.hok a _ ea
  obtain ⟨mA, n1, r⟩ : ObjOk X.prog X.w H1 s1.heap d (.xd fs) := I1.hok d _ ed
  obtain ⟨od, hod, hl⟩ := lookIn_ns n1
  obtain ⟨u, hu, ru⟩ := RelO.some_of (v := v) (o := mA f) (by rw [← l]; exact r f)
  obtain ⟨hp, g, dr, t, os⟩ := s1
  exact xf_get I1.kIn Z (o := o) (od := od) ⟨g1, g2, by unfold PySem.W.notCls; rw [g4], by rw [g3]; exact hod⟩ (by rw [hl, hu]) (handed_of ru) ⟨v, H1, I1.tok _, ru, q⟩
theorem pe_fldXK {X : Cx} {K : PySem.W.Frag} {e : Expr} {f : Str} {pos : Pos} {ta : TE} (h : X.K = K) (he : PE X e ta) (hb : attributeBase e f X.env (eval e X.env) = eval e X.env) : PE X (.Attribute e f pos) (tFldX K ta f) := by subst h; exact pe_fldX he hb
/-! ### raise C(..), C an error class with an own __init__ -/
section
variable {prog : Program} {w : World} {A : Around} {E : Value → Shared → Prop} {h : Heap} {g : Array GenState} {d : Drawn} {t : Nat} {os : OsState}
variable {nm q : Str} {C N : Addr} {bs bm bmB : List Value} {hdct : Bool} {sn : List Str} {sub : List Value} {ab : Bool} {col : Option Bool} {dd : Option Addr} {k0 k1 k2 k3 k5 : Option Value} {B Bn newId nid initId inN : String} {bmN : List Value}
theorem type_call_exc_initU (Fn : ExcBaseFacts Bn newId inN bmN) (hBn : bmB.contains (.type Bn) = true) (F : ExcBaseFacts B nid initId bmB) (T : OwnTail h bmB bm) {rest : List Value} {fI : Addr} {oI : Obj} {Q : PySem.Fin → Shared → Prop}
    (hC : h.get? C = some (excClassObj nm q C N bs bm hdct sn sub ab col dd k0 k1 k2 k3 k5 newId)) (hlk : PySem.W.Looks (model prog w) h (typeLookup (.ref C) (Str.ofString "__init__")) (some (.ref fI)))
    (hfI : h.get? fI = some oI) (hfc : oI.cls = .type "function")
    (hq : ∀ h' e, Heap.MadeExcOf h h' e (.ref C) rest →
      wpAny (model prog w) A (call (.ref fI) (.ref e :: rest)) (fun r s' => r = .none ∧ Q (.done (.ret (.ref e))) s') E ⟨h', g, d, t, os⟩) (hrest : rest.length ≤ sizeLine := by size_fits) :
    wpAny (model prog w) A (Builtin.«type.__call__» ⟨.ref C :: rest, []⟩) Q E ⟨h, g, d, t, os⟩ := by
  repeat (first | with_reducible refine wpAny_loadPart_at hC ?_ | with_reducible refine wpAny_madeBy_exc hC ?_ | wp_step)
  refine codeAny_call_builtin_code (Code.quiet_builtin _ Fn.quiet) (wpAny_check_new_subU Fn hBn T hC ?_)
  refine codeAny_exc_new_subU Fn hBn F T hC ?_ hrest
  show wpAny _ _ _ _ _ _
  have hC₁ := Heap.get?_push_of_some { cls := .ref C, data := .fields #[.ref h.objs.size, .none, .none, .none, .bool false, .none] }
    (Heap.get?_push_of_some { cls := .type "tuple", data := .seq rest.toArray } hC)
  have hfI₁ := Heap.get?_push_of_some { cls := .ref C, data := .fields #[.ref h.objs.size, .none, .none, .none, .bool false, .none] }
    (Heap.get?_push_of_some { cls := .type "tuple", data := .seq rest.toArray } hfI)
  have hget : ((h.push { cls := .type "tuple", data := .seq rest.toArray }).push
      { cls := .ref C, data := .fields #[.ref h.objs.size, .none, .none, .none, .bool false, .none] }).get? (h.objs.size + 1) = some
      { cls := .ref C, data := .fields #[.ref h.objs.size, .none, .none, .none, .bool false, .none] } := by heap_get
  have hcC : (Value.ref C :: bm).contains (.ref C) = true := by simp
  unfold isInstance
  repeat (first | with_reducible refine wpAny_loadPart_at hget ?_ | (with_reducible refine wpAny_isSubtype_exc hC₁ ?_; rw [hcC]) | wp_step)
  show wpAny _ _ (typeLookup (.ref C) _) _ _ _
  refine hlk _ _ _ _ (fun b o e => Heap.get?_push_of_some _ (Heap.get?_push_of_some _ e)) ?_
  refine wpAny_holding (wpAny_bind ?_)
  unfold bindSpecial
  refine wpAny_bind (wpAny_typeOf (T := "function") ⟨_, hfI₁, hfc⟩ ?_)
  rw [if_pos (by decide)]
  refine wpAny_pure (wpAny_bind (wpAny_mono (hq _ (h.objs.size + 1) ⟨fun b o hb => Heap.get?_push_of_some _ (Heap.get?_push_of_some _ hb), Heap.get?_none_of_le (Nat.le_succ _), h.objs.size, hget, Heap.get?_none_of_le (Nat.le_refl _), ?_⟩) (fun r s' hr => ?_) fun _ _ x => x))
  · exact Heap.get?_push_of_some _ (Heap.get?_push_at rfl rfl)
  · obtain ⟨rfl, hQ⟩ := hr
    wp_walk
    exact hQ
theorem call_exc_initU (Fn : ExcBaseFacts Bn newId inN bmN) (hBn : bmB.contains (.type Bn) = true) (F : ExcBaseFacts B nid initId bmB) (T : OwnTail h bmB bm) {rest : List Value} {fI : Addr} {oI : Obj} {Q : Value → Shared → Prop}
    (hC : h.get? C = some (excClassObj nm q C N bs bm hdct sn sub ab col dd k0 k1 k2 k3 k5 newId)) (hlk : PySem.W.Looks (model prog w) h (typeLookup (.ref C) (Str.ofString "__init__")) (some (.ref fI)))
    (hfI : h.get? fI = some oI) (hfc : oI.cls = .type "function")
    (hq : ∀ h' e, Heap.MadeExcOf h h' e (.ref C) rest →
      wpAny (model prog w) (A.under (.builtin "type.__call__" ⟨.ref C :: rest, []⟩)) (call (.ref fI) (.ref e :: rest)) (fun r s' => r = .none ∧ Q (.ref e) s') E ⟨h', g, d, t, os⟩) (hrest : rest.length ≤ sizeLine := by size_fits) :
    wpAny (model prog w) A (call (.ref C) rest) Q E ⟨h, g, d, t, os⟩ := by
  have f1 := tc_lookup
  have f2 := tc_bind (.ref C)
  have hT : (⟨h, g, d, t, os⟩ : Shared).TypeIs (.ref C) "type" := ⟨_, hC, rfl⟩
  refine wpAny_call (codeAny_of_tree ?_)
  show wpAny _ _ (callAny (.ref C) _) _ _ _
  repeat (any_goals (first | assumption | with_reducible refine wpAny_loadPart_at hC ?_ | wp_step))
  refine ⟨rfl, ?_⟩
  refine codeAny_call_builtin_at (Code.quiet_builtin _ (by decide +kernel)) entry_typeCall (wpAny_check_type_call_sub hC (type_call_exc_initU (hrest := hrest) Fn hBn F T hC hlk hfI hfc fun h' e hm => ?_))
  exact hq h' e hm
end
section
variable {prog : Program} {w : World} {A : Around} {E : Value → Shared → Prop} {s : Shared} {env : Env}
variable {nm q : Str} {C N : Addr} {bs bm bmB : List Value} {hdct : Bool} {sn : List Str} {sub : List Value} {ab : Bool} {col : Option Bool} {dd : Option Addr} {k0 k1 k2 k3 k5 : Option Value} {B Bn newId nid initId inN : String} {bmN : List Value}
theorem raiseStmt_x {x : Sem Value} {Q : Flow → Shared → Prop} (hbase : bm.contains (.type "BaseException") = true) (hh : A.handled = none)
    (h : wpAny (model prog w) A x (fun v s₁ => ∃ e oe, v = .ref e ∧ s₁.heap.get? C = some (excClassObj nm q C N bs bm hdct sn sub ab col dd k0 k1 k2 k3 k5 newId) ∧
      s₁.heap.get? e = some oe ∧ oe.cls = .ref C ∧ (∃ vs, oe.data = .fields vs ∧ vs[1]? = some .none) ∧ E (.ref e) s₁) E s) :
    wpAny (model prog w) A (raiseStmt env (some x) none) Q E s := by
  have hcB : (Value.ref C :: bm).contains (.type "BaseException") = true := by rw [List.contains_cons, hbase, Bool.or_true]
  unfold raiseStmt
  refine wpAny_bind (wpAny_mono h (fun v s₁ h₁ => ?_) fun _ _ x => x)
  obtain ⟨e, oe, rfl, hC, he, hcl, ⟨vs, hdt, hv1⟩, hE⟩ := h₁
  obtain ⟨hp, g, d, tk, os⟩ := s₁
  obtain ⟨oc, odi, oda, osl⟩ := oe
  dsimp only at hcl hdt
  subst hcl hdt
  unfold setFlight
  repeat (first | with_reducible refine wpAny_field he rfl hv1 ?_ | with_reducible refine wpAny_loadPart_at he ?_ | with_reducible refine wpAny_loadPart_at hC ?_ | (with_reducible refine wpAny_isSubtype_exc hC ?_; rw [hcB]) | wp_step)
  exact wpAny_raiseNew_none hh hE
theorem raise_call_initU (Fn : ExcBaseFacts Bn newId inN bmN) (hBn : bmB.contains (.type Bn) = true) (F : ExcBaseFacts B nid initId bmB) {fI : Addr} {oI : Obj} {x : Str} {np cpos pos : Pos} {args : List Expr} {Q : Flow → Shared → Prop}
    (hbase : bm.contains (.type "BaseException") = true) (hh : A.handled = none) (hplain : (backTo cpos (starEach args env)).any (·.1) = false) (hfc : oI.cls = .type "function")
    (h : wpAny (model prog w) A (eval (.Name x np) env) (fun f s₁ => f = .ref C ∧ wpAny (model prog w) A (evalArgs (.ref C) true (backTo cpos (starEach args env)) [])
      (fun a s₂ => a.kw = [] ∧ a.pos.length ≤ sizeLine ∧ s₂.heap.get? C = some (excClassObj nm q C N bs bm hdct sn sub ab col dd k0 k1 k2 k3 k5 newId) ∧ PySem.W.Looks (model prog w) s₂.heap (typeLookup (.ref C) (Str.ofString "__init__")) (some (.ref fI)) ∧ s₂.heap.get? fI = some oI ∧ OwnTail s₂.heap bmB bm ∧
        ∀ h' e, Heap.MadeExcOf s₂.heap h' e (.ref C) a.pos → wpAny (model prog w) (A.under (.builtin "type.__call__" ⟨.ref C :: a.pos, []⟩)) (call (.ref fI) (.ref e :: a.pos))
          (fun r s' => r = .none ∧ s'.heap.get? C = some (excClassObj nm q C N bs bm hdct sn sub ab col dd k0 k1 k2 k3 k5 newId) ∧ (∃ oe, s'.heap.get? e = some oe ∧ oe.cls = .ref C ∧ ∃ vs, oe.data = .fields vs ∧ vs[1]? = some .none) ∧ E (.ref e) s') E { s₂ with heap := h' }) E s₁) E s) :
    wpAny (model prog w) A (exec (.Raise (some (.Call (.Name x np) args [] cpos)) none pos) env) Q E s := by
  rw [arm_exec_Raise]
  simp only [evalOpt, Option.map]
  refine wpAny_bind (wpAny_standAt (raiseStmt_x (C := C) (nm := nm) (q := q) (N := N) (bs := bs) (bm := bm) (hdct := hdct) (sn := sn) (sub := sub) (ab := ab) (col := col) (dd := dd) (k0 := k0) (k1 := k1) (k2 := k2) (k3 := k3) (k5 := k5) (newId := newId) hbase hh (wpAny_bind (wpAny_mono (wpAny_Call_ofName (wpAny_mono h (fun f s₁ h₁ => ?_) fun _ _ x => x)) (fun v s₃ h₃ => wpAny_bind (wpAny_standAt (wpAny_pure h₃))) fun _ _ x => x))))
  obtain ⟨rfl, h₁⟩ := h₁
  unfold callWith
  refine wpAny_bind (wpAny_holding (wpAny_mono h₁ (fun a s₂ h₂ => wpAny_bind (wpAny_standAt ?_)) fun _ _ x => x))
  obtain ⟨apos, akw⟩ := a
  obtain ⟨hkw, hlen, hC, hlk, hfI, T, h₂⟩ := h₂
  obtain rfl : akw = [] := hkw
  obtain ⟨hp, g, d, tk, os⟩ := s₂
  simp only [hplain]
  refine wpAny_bind (wpAny_keeperOf_exc hC ?_)
  refine wpAny_bind (call_exc_initU (hrest := hlen) Fn hBn F T hC hlk hfI hfc fun h' e hm => wpAny_mono (h₂ h' e hm) (fun r s' hr => ⟨hr.1, wpAny_bind (wpAny_holding (wpAny_point (wpAny_pure ?_)))⟩) fun _ _ x => x)
  obtain ⟨_, k1, ⟨oe, k2, k3⟩, k4⟩ := hr
  exact ⟨e, oe, rfl, k1, k2, k3.1, k3.2, k4⟩
end
end L2
namespace L2
open PySem PySem.Spec PyProof.Rows
def del (H : Hp) (a : Addr) : Hp := fun b => if b = a then none else H b
theorem del_same {H : Hp} {a : Addr} : del H a a = none := by unfold del; rw [if_pos rfl]
theorem del_ne {H : Hp} {a b : Addr} (h : b ≠ a) : del H a b = H b := by unfold del; rw [if_neg h]
theorem del_upd {H : Hp} {a d : Addr} {o u : HO} (h : H a = none) (n : d ≠ a) : del (upd (upd H a o) d u) a = upd H d u := by
  funext b
  by_cases hb : b = a
  · subst hb; rw [del_same, upd_ne (Ne.symm n), h]
  · rw [del_ne hb]
    by_cases hd : b = d
    · subst hd; rw [upd_same, upd_same]
    · rw [upd_ne hd, upd_ne hb, upd_ne hd]
def RaisesI (X : Cx) (E : XK) : Prop := ∀ (pins : List (Addr × Obj)) (σ : St) (H : Hp) (s : Shared) (a C : Addr) (dx : Option Addr), Inv X pins σ H s → X.s₀.heap.get? a = none → H a = some (excN a C dx) → E (.ref C) dx (del H a) → X.xe (.ref a) s
section
variable {P : Program} {w : World} {K : PySem.W.Frag} {mg : Str → Option Value} {base : Heap}
variable {N : List Str} {qual : Str} {scope : Scope} {f : Addr} {cd : Value} {A : Around} {outer : List Env} {s₀ : Shared} {H₀ : Hp} {E : XK}
theorem raiseIE : RaisesI (cxOf (CXE P w base) P w K mg base N qual scope f cd A outer s₀ H₀ E) E := by
  intro pins σ H s a C dx I new ea q
  show wpAny _ _ (leaving _ (.ref a)) (fun _ s'' => CXE P w base outer H₀ s₀ E (.ref a) s'') _ s
  have new : s₀.heap.get? a = none := new
  have hst : frs (cxOf (CXE P w base) P w K mg base N qual scope f cd A outer s₀ H₀ E).stack = s₀.heap.objs.size :: frs outer := rfl
  have nin : ∀ b o, s₀.heap.get? b = some o → b ∉ frs outer → b ∉ frs (cxOf (CXE P w base) P w K mg base N qual scope f cd A outer s₀ H₀ E).stack := fun b o e n z => by
    rw [hst] at z
    rcases List.mem_cons.mp z with z | z
    · exact absurd (Heap.lt_size e) (by rw [z]; exact Nat.lt_irrefl _)
    · exact n z
  have noex : ∀ b : Addr, b ∉ (cxOf (CXE P w base) P w K mg base N qual scope f cd A outer s₀ H₀ E).ex := fun b z => absurd (show b ∈ ([] : List Addr) from z) (by simp)
  have inst : ∀ b ∈ frs outer, b ∈ frs (cxOf (CXE P w base) P w K mg base N qual scope f cd A outer s₀ H₀ E).stack := fun b z => by rw [hst]; exact List.mem_cons_of_mem _ z
  generalize hfr : frs (cxOf (CXE P w base) P w K mg base N qual scope f cd A outer s₀ H₀ E).stack = fs at nin inst
  have funs := I.stack
  have hin : ∀ env ∈ (cxOf (CXE P w base) P w K mg base N qual scope f cd A outer s₀ H₀ E).stack, ∀ b, env.frame = some b → b ∈ a :: fs := fun env he b hb => List.mem_cons_of_mem _ (by rw [← hfr]; exact List.mem_filterMap.mpr ⟨env, he, hb⟩)
  obtain ⟨⟨oe, vs, g1, g2, g3, g4, g5, g6⟩, _, _⟩ : ObjOk P w H s.heap a (excN a C dx) := I.hok a _ ea
  have hfree : ∀ b ∈ fs, H b = none := fun b hb => I.stkFree b (by rw [hfr]; exact hb)
  have neA : ∀ b o, s₀.heap.get? b = some o → b ≠ a := fun b o e z => by rw [z, new] at e; cases e
  have nina : ∀ b o, s₀.heap.get? b = some o → b ∉ frs outer → b ∉ a :: fs := fun b o e n z => by
    rcases List.mem_cons.mp z with z | z
    · exact neA b o e z
    · exact nin b o e n z
  refine leaveX_first (B := PySem.W.hideAll s.heap (a :: fs)) I.ok.frames rfl (PySem.W.funFrames_hide funs hin) g1 (fun b o e => PySem.W.of_hideAll _ e) (PySem.W.hideAll_none _ List.mem_cons_self) g4 g5 g6 fun h'' fl up => ?_
  rw [g2, g3] at fl
  have B1 := I.base
  have fr : ∀ b ∈ frs outer, ∀ o, s.heap.get? b = some o → ∀ vs, o.data ≠ .fields vs := fun b hb o e => by
    obtain ⟨_, o', ho', hd⟩ := funs.mem (show b ∈ List.filterMap (·.frame) (cxOf (CXE P w base) P w K mg base N qual scope f cd A outer s₀ H₀ E).stack by have := inst b hb; rw [← hfr] at this; exact this)
    rw [ho'] at e; cases e; exact hd
  refine ⟨a, .ref C, dx, del H a, PySem.W.hideAll s.heap (a :: fs), rfl, I.os, I.bare, fl, fun b o e => ?_, fun b o e => ?_, ⟨fun b o e n hb => ?_, fun b o e n hb => ?_, fun b o e n => ?_, fun b o e hb => ?_, fun b hb => ?_, fun b xs e => ?_, fun b o u e => ?_, fun b ps e => ?_⟩, del_same, q⟩
  · have hb := I.bs b o e
    refine PySem.W.hideAll_get _ hb.1 fun z => ?_
    rcases List.mem_cons.mp z with z | z
    · rw [z, ea] at hb; cases hb.2
    · have := (funs.mem (show b ∈ List.filterMap (·.frame) (cxOf (CXE P w base) P w K mg base N qual scope f cd A outer s₀ H₀ E).stack by rw [← hfr] at z; exact z)).1
      have e : base.get? b = some o := e
      have this : base.get? b = none := this
      rw [e] at this; cases this
  · have hba : b ≠ a := fun z => by rw [z, del_same] at e; cases e
    rw [del_ne hba] at e
    refine (I.hok b o e).stay (fun c u hc z => PySem.W.hideAll_get _ z fun m => ?_) (fun c z => ?_) fun c xs z => ?_
    · rcases List.mem_cons.mp m with m | m
      · rcases hc with hc | hc
        · exact hba (hc.symm.trans m)
        · rw [m, ea] at hc; cases hc
      · have := hfree c m
        rcases hc with rfl | hc
        · rw [e] at this; cases this
        · rw [hc] at this; cases this
    · rw [del_ne (fun m => by rw [m, ea] at z; cases z)]; exact z
    · rw [del_ne (fun m => by rw [m, ea] at z; cases z)]; exact z
  · exact PySem.W.hideAll_get _ (B1.keep b o e n hb (noex b)) (nina b o e hb)
  · obtain ⟨sl, e1⟩ := B1.slot b o e n hb (noex b)
    obtain ⟨sl2, e2⟩ := up b _ e1 (fr b hb _ e1)
    exact ⟨sl2, e2⟩
  · rw [del_ne (neA b o e)]; exact B1.free b o e n (noex b)
  · obtain ⟨o', e1⟩ := B1.there b o e (noex b)
    exact ⟨o', PySem.W.hideAll_get _ e1 (nina b o e hb)⟩
  · obtain ⟨_, o, ho, hd⟩ := funs.mem (show b ∈ List.filterMap (·.frame) (cxOf (CXE P w base) P w K mg base N qual scope f cd A outer s₀ H₀ E).stack by have := inst b hb; rw [← hfr] at this; exact this)
    obtain ⟨sl, e2⟩ := up b o ho hd
    exact ⟨_, e2⟩
  · have z := B1.tups b xs e
    rw [del_ne (fun m => by rw [m, ea] at z; cases z)]; exact z
  · have z := B1.frzs b o u e
    rw [del_ne (fun m => by rw [m, ea] at z; cases z)]; exact z
  · obtain ⟨more, z⟩ := B1.tbls b ps e
    exact ⟨more, by rw [del_ne (fun m => by rw [m, ea] at z; cases z)]; exact z⟩
end
/-- as excIn, with an own __init__ -/
def excInI (K : PySem.W.Frag) (C : Addr) (bmB : List Value) (newId : String) : Bool := match K.lookup C with
  | some ⟨.type "type", _, .cls cd, sl⟩ => (match cd.mro, sl.toList with
    | .ref C' :: bm, [_, _, _, _, some (.builtin n), _] => C' == C && n == newId && !cd.hasDel && PySem.W.tailIn K bmB bm
    | _, _ => false)
  | _ => false
/-- what an error class with an own __init__ must have to be made -/
structure XMk (K : PySem.W.Frag) (C f : Addr) : Prop where
  q : excInI K C [.type "ValueError", .type "Exception", .type "BaseException", .type "object"] "ValueError.__new__" = true
  init : PySem.W.findIn K (.ref C) "__init__" = some (some (.ref f))
  fn : PySem.W.isFn K (.ref f) = true
  at_ : (K.lookup f).isSome = true
def tRaiseI (C : Addr) (sp : Sp) (E : XK) (t : TA) : TS := fun _ σ H => t σ H fun vs H1 => vs.length ≤ sizeLine ∧ ∀ a, H1 a = none → sp (.ref a :: vs) (upd H1 a (excN a C none)) (fun r H2 => r = .non ∧ ∃ dx, H2 a = some (excN a C dx) ∧ E (.ref C) dx (del H2 a)) E0
theorem ps_raiseI {X : Cx} {E : XK} {x : Str} {C fI : Addr} {fd : FuncData} {ps : List Str} {sp : Sp} {k : Nat} {np cpos pos : Pos} {e : Expr} {es : List Expr} {t : TA} (hR : RaisesI X E) (hc : X.calm = true) (hex : X.ex = []) (hg : Gl X x) (hm : X.mg x = some (.ref C))
    (M : XMk X.K C fI) (F : FnOk X.prog X.w X.K X.mg X.base CX0 k fI fd ps sp) (hr : Room (k + 1) X.A) (hb : Binds X.K fd ps []) (ha : PA X (e :: es) t)
    (hdb : (x == ("__debug__" : Str)) = false := by decide) (he : starEach (e :: es) X.env = (false, eval e X.env) :: starEach es X.env := by rfl) (hpl : (backTo cpos (starEach es X.env)).any (·.1) = false := by rfl) :
    PS X (.Raise (some (.Call (.Name x np) (e :: es) [] cpos)) none pos) (tRaiseI C sp E t) := by
  intro pins s σ H D I h
  have O : ∀ hp : Heap, X.K.In hp → ∃ bm' N nm q bs hdct sn sub ab col dd k0 k1 k2 k3 k5, hp.get? C = some (excClassObj nm q C N bs bm' hdct sn sub ab col dd k0 k1 k2 k3 k5 "ValueError.__new__") ∧ OwnTail hp [.type "ValueError", .type "Exception", .type "BaseException", .type "object"] bm' := fun hp kin => by
    have q := M.q
    unfold excInI at q
    split at q
    · rename_i dd cd sl ho
      split at q
      · rename_i C' bm' k0 k1 k2 k3 n k5 hm' hs
        simp only [Bool.and_eq_true, beq_iff_eq, Bool.not_eq_true'] at q
        obtain ⟨⟨⟨rfl, rfl⟩, hdel⟩, ht⟩ := q
        obtain ⟨nm, bs, mro, ns, qn, hd, sn, sub, ab, col, del⟩ := cd
        dsimp only at hm' hdel
        subst hm' hdel
        have hsl : sl = #[k0, k1, k2, k3, some (.builtin "ValueError.__new__"), k5] := by
          obtain ⟨l⟩ := sl
          simp only at hs
          rw [hs]
        subst hsl
        exact ⟨bm', ns, nm, qn, bs, hd, sn, sub, ab, col, dd, k0, k1, k2, k3, k5, kin _ _ ho, PySem.W.tail_of_in kin ht⟩
      · cases q
    · cases q
  obtain ⟨tl, N, nm, qn, bs, hdct, sn, sub, ab, col, dd, k0, k1, k2, k3, k5, hC, T⟩ := O X.base I.mod.kin
  obtain ⟨oI, hoI⟩ := Option.isSome_iff_exists.mp M.at_
  have hfn : oI.cls = .type "function" := by
    have := beq_iff_eq.mp M.fn
    unfold PySem.W.typeIn at this
    simp only [hoI] at this
    first | exact Option.some.inj this | simpa using this
  have FB := PySem.F.excBase_ValueError
  refine raise_call_initU (C := C) (nm := nm) (q := qn) (N := N) (bs := bs) (bm := tl) (hdct := hdct) (sn := sn) (sub := sub) (ab := ab) (col := col) (dd := dd) (k0 := k0) (k1 := k1) (k2 := k2) (k3 := k3) (k5 := k5) (fI := fI) (oI := oI)
    FB rfl FB (T.hasType FB.hasBase) (I.ok.hd hc) (by rw [he]; show (false || (backTo cpos (starEach es X.env)).any (·.1)) = false; rw [hpl]; rfl) hfn (ld_glob I hg hm ⟨rfl, ?_⟩ hdb)
  rw [he]
  refine Calls.evalArgs_plain ?_
  have ha' := ha cpos pins s σ H _ I h
  rw [he] at ha'
  refine thn ha' fun us s2 ⟨vs, H2, I2, r2, hz, q2⟩ => ?_
  refine ⟨rfl, by rw [← r2.length]; exact hz, I2.bk _ _ hC, PySem.W.looks_findIn I2.kIn M.init, I2.kIn _ _ hoI, T.keeps I2.bk, fun h' a hx => ?_⟩
  have hn : H2 a = none := I2.hok.none hx.new
  obtain ⟨ta, t1, _, _⟩ := hx.there
  have I3 : Inv X pins σ (upd H2 a (excN a C none)) { s2 with heap := h' } := I2.laidAt (t' := s2.toks) hx.keeps hx.new (excN_ok t1 rfl rfl rfl rfl rfl)
  have q3 := q2 a hn
  have r3 : Vals (V.ref a :: (vs ++ [])) (Value.ref a :: (us ++ [])) := .cons rfl (r2.append .nil)
  rw [List.append_nil, List.append_nil] at r3
  have hl : (Value.ref a :: us ++ []).length = ps.length := by
    rw [List.append_nil, ← r3.length]; exact F.len _ _ _ _ q3
  have hbb := hb { s2 with heap := h' } (Value.ref a :: us) I3.kIn hl
  rw [List.append_nil] at hbb
  refine wpAny_call (codeAny_mono (F.run _ X.stack _ _ ⟨Value.ref a :: us, []⟩ (Value.ref a :: us) _ _ E0 (hr.make C us []) (I3.env0.make C us []) hbb r3 q3) fun r s' hq' => ?_)
  cases r with
  | error e => exact False.elim hq'
  | ok fl =>
    cases fl with
    | ret u =>
      obtain ⟨v, H', I4, rv, ev, dx, e1, e2⟩ := I3.after hq'
      subst ev
      have hu : u = .none := rv
      obtain ⟨⟨oe, ws, g1, g2, g3, g4, g5, g6⟩, _, _⟩ : ObjOk X.prog X.w H' s'.heap a (excN a C dx) := I4.hok a _ e1
      refine ⟨hu, I4.bk _ _ hC, ⟨oe, g1, g2, ws, g4, g5⟩, hR pins σ H' s' a C dx I4 ?_ e1 e2⟩
      cases z : X.s₀.heap.get? a with
      | none => rfl
      | some o =>
        obtain ⟨o', z'⟩ := I2.base.there a o z (by rw [hex]; simp)
        rw [hx.new] at z'; cases z'
    | next => exact False.elim hq'
    | brk => exact False.elim hq'
    | cont => exact False.elim hq'
end L2
namespace L2
open PySem PySem.Spec PyProof.Rows
/-! ### sorted(d), d a dict whose keys are ints -/
section
variable {prog : Program} {w : World} {A : Around} {E : Value → Shared → Prop} {s : Shared} {T : String} {r d : Addr} {n : Nat} {P : Nat → Value → Prop} {OK : Heap → Prop} {ns : List Int} {Q : Value → Shared → Prop}
end
section
variable {X : Cx}
end
end L2
namespace L2
open PySem PySem.Spec PyProof.Rows
/-! ### texts: the signs of a text, f-strings, join, split, int(text), None in xs -/
def Its (x : Str) : It := ⟨fun i _ => i < x.cps.size, fun i H y H' => H' = H ∧ ∃ c, x.cps[i]? = some c ∧ y = .str ⟨#[c]⟩, fun i _ => i = x.cps.size⟩
theorem turn_str {P : Program} {w : World} {K : PySem.W.Frag} {tg : Expr} (x : Str) (t : Tok) (it : Addr) (n : String) (hn : n = "str_ascii_iterator" ∨ n = "str_iterator") : Turn P w K tg (Its x) [it] it (fun i h => h.IsStrIter it n x t i) where
  mem := by simp
  obj := fun i h st b hb => by
    have e : b = it := by simpa using hb
    subst e
    obtain ⟨o, e, c, d⟩ := st
    exact ⟨o, e, fun v z => by rw [d] at z; cases z⟩
  keep := fun i h h' st k => let ⟨o, ho, r⟩ := st; ⟨o, k it (by simp) o ho, r⟩
  item := by
    intro X hP hw hK hc i pins s σ H E I hf st hg
    subst hP hw hK
    obtain ⟨f0, f1, f2, f3, f4, f5⟩ := hf it (by simp)
    have W : Walks X.prog X.w X.A it [it] [it] x.cps.size (SignAt x) (fun i h => h.IsStrIter it n x t i) := by
      rcases hn with rfl | rfl
      · exact Walks.strAscii (I.ok.hd hc) it x t
      · exact Walks.strWide (I.ok.hd hc) it x t
    refine W.item i s _ _ hg st fun v h' tk hv st' kk => ?_
    obtain ⟨c, u, hc', rfl⟩ := hv
    have I1 : Inv X pins σ H { s with heap := h', toks := tk } := I.turned (fun b o hb e => kk b o (by simpa using hb) e) f0 f1 f3 f4 f5
    obtain ⟨o, e, c', d⟩ := id st'
    exact ⟨_, rfl, go_of (s := { s with heap := h', toks := tk }) e c' d (by rcases hn with rfl | rfl <;> decide) ⟨.str ⟨#[c]⟩, H, I1, ⟨u, rfl⟩, ⟨rfl, c, hc', rfl⟩, st', fun b hb => (hf b hb).1⟩⟩
  done := by
    intro X hP hw hK hc i pins s σ H E I hf st hg
    subst hP hw hK
    obtain ⟨f0, f1, f2, f3, f4, f5⟩ := hf it (by simp)
    have W : Walks X.prog X.w X.A it [it] [it] x.cps.size (SignAt x) (fun i h => h.IsStrIter it n x t i) := by
      rcases hn with rfl | rfl
      · exact Walks.strAscii (I.ok.hd hc) it x t
      · exact Walks.strWide (I.ok.hd hc) it x t
    have hg : i = x.cps.size := hg
    subst hg
    exact W.done s _ _ st fun h' tk kk => ⟨rfl, I.turned (t' := tk) (fun b o hb e => kk b o (by simpa using hb) e) f0 f1 f3 f4 f5⟩
  self := fun _ _ _ _ _ st h => by
    rcases hn with rfl | rfl
    · exact wpAny_pyIter_striter_ascii st h
    · exact wpAny_pyIter_striter_wide st h
section
variable {X : Cx} {tg : Expr}
def iStr (tl : TE) : TI := fun σ H R => tl σ H fun x H1 => ∃ z, x = .str z ∧ R (Its z) H1
theorem pi_str {l : Expr} {tl : TE} (hl : PE X l tl) : PI X tg l (iStr tl) := by
  intro pins s σ H R I h
  refine thn (hl pins s σ H _ I h) fun v s1 ⟨x, H1, I1, r1, q1⟩ => ?_
  obtain ⟨z, e, q⟩ := q1
  subst e
  obtain ⟨t, rfl⟩ := r1
  cases ha : z.cps.all (· < 128)
  · refine wpAny_pyIter_wide ha ?_
    refine ⟨s1.heap.objs.size, [s1.heap.objs.size], _, _, H1, rfl, I1.kept (t' := s1.toks) fun b o e => Heap.get?_push_of_some _ e, turn_str z t _ "str_iterator" (.inr rfl), ⟨_, Heap.get?_push_size _ rfl, rfl, rfl⟩, fun b hb => ?_, q⟩
    have e : b = s1.heap.objs.size := by simpa using hb
    subst e
    exact I1.fpOk (Nat.le_refl _) (I1.hok.fresh (Nat.le_refl _))
  · refine wpAny_pyIter_ascii ha ?_
    refine ⟨s1.heap.objs.size, [s1.heap.objs.size], _, _, H1, rfl, I1.kept (t' := s1.toks) fun b o e => Heap.get?_push_of_some _ e, turn_str z t _ "str_ascii_iterator" (.inl rfl), ⟨_, Heap.get?_push_size _ rfl, rfl, rfl⟩, fun b hb => ?_, q⟩
    have e : b = s1.heap.objs.size := by simpa using hb
    subst e
    exact I1.fpOk (Nat.le_refl _) (I1.hok.fresh (Nat.le_refl _))
end
theorem comp_str {acc : Addr} {x : Str} {n : Nat} {fr : List (Nat × Nat)} {g : TG} {tf : TT} {te : TE} {Qa : Hp → Prop} {σ : St} {H1 : Hp} (Pv : Nat → St → List V → Hp → Prop) (h0 : Pv 0 (startC n fr σ) [] (upd H1 acc (.lst [])))
    (hl : ∀ i τ ys H, i ≤ x.cps.size → Pv i τ ys H → H acc = some (.lst ys))
    (hs : ∀ i c τ ys H (R : St → List V → Hp → Prop), x.cps[i]? = some c → Pv i τ ys H → (∀ τ' ys' H', Pv (i + 1) τ' ys' H' → R τ' ys' H') → g (.str ⟨#[c]⟩) τ H fun τ4 H4 => tf τ4 H4 fun b H5 =>
      if b = true then te τ4 H5 fun v H6 => H6 acc = some (.lst ys) ∧ ys.length < sizeLine ∧ R τ4 (ys ++ [v]) (upd H6 acc (.lst (ys ++ [v]))) else R τ4 ys H5)
    (hd : ∀ τ ys H, Pv x.cps.size τ ys H → Qa H) :
    ∃ W : Nat → Nat → St → List V → Hp → Prop, (∃ m, W 0 m (startC n fr σ) [] (upd H1 acc (.lst []))) ∧ ∀ i m τ ys H2, W i m τ ys H2 →
      H2 acc = some (.lst ys) ∧ (((Its x).stop i H2 ∧ Qa H2) ∨ ((Its x).go i H2 ∧ ∀ y H3, (Its x).yld i H2 y H3 → g y τ H3 fun τ4 H4 => tf τ4 H4 fun b H5 =>
        if b = true then te τ4 H5 fun v H6 => H6 acc = some (.lst ys) ∧ ys.length < sizeLine ∧ ∃ m', m' < m ∧ W (i + 1) m' τ4 (ys ++ [v]) (upd H6 acc (.lst (ys ++ [v])))
        else ∃ m', m' < m ∧ W (i + 1) m' τ4 ys H5)) := by
  refine ⟨fun i m τ ys H => m = x.cps.size - i ∧ i ≤ x.cps.size ∧ Pv i τ ys H, ⟨x.cps.size, by simp, Nat.zero_le _, h0⟩, ?_⟩
  rintro i m τ ys H2 ⟨rfl, hi, p⟩
  refine ⟨hl i τ ys H2 hi p, ?_⟩
  by_cases hlt : i < x.cps.size
  · refine .inr ⟨hlt, fun y H' z => ?_⟩
    obtain ⟨e, c, hc, e2⟩ := z
    subst e e2
    exact hs i c τ ys _ (fun τ' ys' H' => ∃ m', m' < x.cps.size - i ∧ m' = x.cps.size - (i + 1) ∧ i + 1 ≤ x.cps.size ∧ Pv (i + 1) τ' ys' H') hc p fun τ' ys' H' p' => ⟨x.cps.size - (i + 1), by omega, rfl, hlt, p'⟩
  · have e : i = x.cps.size := by omega
    subst e
    exact .inl ⟨rfl, hd τ ys H2 p⟩
theorem strs_of : ∀ {ys : List Str} {us : List Value}, Vals (ys.map V.str) us → StrsAre us ys
  | [], _, .nil => .nil
  | y :: ys, _, .cons r t => by
    obtain ⟨t', rfl⟩ := r
    exact .cons y t' (strs_of t)
theorem vals_strs : ∀ l : List (Str × Tok), Vals ((l.map (·.1)).map V.str) (strValues l)
  | [] => .nil
  | p :: l => .cons ⟨p.2, rfl⟩ (vals_strs l)
section
variable {X : Cx}
def rJoin (K : PySem.W.Frag) : V → List V → Hp → VK → Prop := fun x vs H Q => ∃ sep p ys, x = .str sep ∧ vs = [.ref p] ∧ SqL K H p (ys.map V.str) ∧ (ys.map (·.length)).sum + ys.length * sep.length ≤ 16777216 ∧ Q (.str (Txt.join sep ys)) H
theorem mt_join : MtM X "str.join" (rJoin X.K) := by
  intro pins s σ H x xs v us Q I rx rs h
  obtain ⟨sep, p, ys, rfl, rfl, hp, hok, q⟩ := h
  obtain ⟨t, rfl⟩ := rx
  obtain ⟨u, rfl, ru⟩ := rs.one
  cases ru
  obtain ⟨its, rv, pl, hz⟩ := I.list hp
  exact join_list pl.isList (by simpa using strs_of rv) hok fun t' k => ⟨.str (Txt.join sep ys), H, I.tok _, ⟨_, rfl⟩, q⟩
def rSplit : V → List V → Hp → VK → Prop := fun x vs H Q => ∃ z y, x = .str z ∧ vs = [.str y] ∧ (y.length == 0) = false ∧ z.length + 2 ≤ sizeLine ∧ ∀ l, H l = none → Q (.ref l) (upd H l (.lst ((Txt.split z y).map V.str)))
theorem mt_split : MtM X "str.split" rSplit := by
  intro pins s σ H x xs v us Q I rx rs h
  obtain ⟨x, y, rfl, rfl, hy, hsz, q⟩ := h
  obtain ⟨t, rfl⟩ := rx
  obtain ⟨_, rfl, u, rfl⟩ := rs.one
  have key : ∀ (l : List (Str × Tok)) (k : Nat), l.map (·.1) = Txt.split x y → l.length ≤ sizeLine → EP X pins σ Q (.ref s.heap.objs.size) { s with heap := s.heap.push { cls := .type "list", data := .seq (strValues l).toArray }, toks := k } := fun l k e hl => by
    refine ⟨.ref s.heap.objs.size, _, I.laid (t' := k) (fun b ob e => Heap.get?_push_of_some _ e) (Nat.le_refl _) (show ObjOk X.prog X.w _ _ s.heap.objs.size (.lst ((Txt.split x y).map V.str)) from ⟨?_, strValues l, 0, ?_, ?_⟩), rfl, q _ (I.hok.fresh (Nat.le_refl _))⟩
    · rw [← e, List.length_map, List.length_map]; exact hl
    · rw [← e]; exact vals_strs l
    · exact Heap.get?_push_size _ rfl
  have hn : (Builtin.Str.partsBetween x (Builtin.Str.occurrences x y 0 x.length (x.length + 1)) y.length).length ≤ sizeLine := by
    have e1 := StrLaws.occ_length_le x y 0 x.length (x.length + 1)
    rw [length_partsBetween]; omega
  have sl : 1 ≤ sizeLine := by decide
  cases h1 : (decide (x.length < y.length) || decide (Builtin.Str.strKind x < Builtin.Str.strKind y))
  · cases hf : (Builtin.Str.occurrences x y 0 x.length (x.length + 1)).isEmpty
    · refine call_meets F.slot_str_split (typeIs_str _ _ _) F.entry_str_split (F.args_str_split_2 _ _) (meets_str_split_sep x y t u h1 hy hf (by omega) hn) ?_
      show wants _ _ _ { s with toks := _, heap := s.heap.push { cls := .type "list", data := .seq (strsFrom s.toks (Builtin.Str.partsBetween x (Builtin.Str.occurrences x y 0 x.length (x.length + 1)) y.length)).toArray } }
      rw [strsFrom_eq]
      refine key (numbered s.toks _) _ ((numbered_texts _ _).trans ((if_neg (ne_true_of_eq_false h1)).trans (if_neg (ne_true_of_eq_false hf))).symm) ?_
      have := congrArg List.length (numbered_texts s.toks (Builtin.Str.partsBetween x (Builtin.Str.occurrences x y 0 x.length (x.length + 1)) y.length))
      rw [List.length_map] at this
      omega
    · exact call_meets F.slot_str_split (typeIs_str _ _ _) F.entry_str_split (F.args_str_split_2 _ _) (meets_str_split_not_found x y t u h1 hy hf)
        (key [(x, t)] s.toks ((if_neg (ne_true_of_eq_false h1)).trans (if_pos hf)).symm sl)
  · exact call_meets F.slot_str_split (typeIs_str _ _ _) F.entry_str_split (F.args_str_split_2 _ _) (meets_str_split_cannot_occur x y t u h1)
      (key [(x, t)] s.toks (if_pos h1).symm sl)
theorem call_int_text : CallR X (.type "int") (fun xs H Q => ∃ z n, xs = [.str z] ∧ z.length ≤ 640 ∧ PySem.intText? z = some n ∧ Q (.int n) H) := by
  intro pins s σ H xs us Q I r h
  obtain ⟨z, n, rfl, hz, hn, q⟩ := h
  obtain ⟨u, rfl, t, rfl⟩ := vals1 r
  exact PySem.W.KIN.call_text hn hz ⟨.int n, H, I.tok _, ⟨_, rfl⟩, q⟩
/-! f-strings -/
def tFmt (te : TE) : TE := fun σ H Q => te σ H fun x H1 => ∃ i : Int, x = .int i ∧ i.natAbs.log2 < 1920 ∧ Q (.str (toString i)) H1
abbrev TJ := Str → St → Hp → VK → Prop
def PJ (X : Cx) (es : List Expr) (t : TJ) : Prop :=
  ∀ (pins : List (Addr × Obj)) (s : Shared) (σ : St) (H : Hp) (out : Str) (Q : VK), Inv X pins σ H s → t out σ H Q → wpAny (model X.prog X.w) X.A (joinParts out (evalEach es X.env)) (EP X pins σ Q) X.xe s
def jNil : TJ := fun out _ H Q => out.length ≤ sizeLine ∧ Q (.str out) H
def jCons (te : TE) (r : TJ) : TJ := fun out σ H Q => te σ H fun x H1 => ∃ y, x = .str y ∧ (out ++ y).length ≤ sizeLine ∧ r (out ++ y) σ H1 Q
/-! None in xs, xs of None and tuples -/
def isN : V → Bool
  | .non => true
  | _ => false
def isNV : Value → Bool
  | .none => true
  | _ => false
def rNoneIn (K : PySem.W.Frag) : R2 := fun x y H Q => ∃ p xs, x = .non ∧ y = .ref p ∧ SqL K H p xs ∧ (∀ z ∈ xs, z = .non ∨ ∃ a ys, z = .ref a ∧ H a = some (.tup ys)) ∧ Q (.bl (xs.any isN)) H
theorem any_isN : ∀ {xs : List V} {us : List Value}, Vals xs us → us.any isNV = xs.any isN
  | _, _, .nil => rfl
  | y :: xs, u :: us, .cons r t => by
    rw [List.any_cons, List.any_cons, any_isN t]
    congr 1
    cases y <;> first | (cases r; rfl) | (obtain ⟨_, rfl⟩ := r; rfl)
theorem op_noneIn (hu : X.A.units + 1 < cLine) : OpR X (compareOp .In) (rNoneIn X.K) := by
  intro pins s σ H x y v u Q I rx ry h
  obtain ⟨p, xs, rfl, rfl, hq, hs, q⟩ := h
  cases rx
  cases ry
  obtain ⟨its, r, pl, hz⟩ := I.list hq
  refine SeqAt.in_listAt isNV pl.isList (fun w hw => ?_) ⟨.bl _, H, I, rfl, ?_⟩
  · have hw : w ∈ its := by simpa using hw
    obtain ⟨i, hi, rfl⟩ := List.getElem_of_mem hw
    obtain ⟨z, hz', rz⟩ : ∃ z, xs[i]? = some z ∧ RelV z its[i] := by
      have hl := r.length
      obtain ⟨w', e, rr⟩ := r.get (i := i) (x := xs[i]'(by omega)) (List.getElem?_eq_getElem _)
      rw [List.getElem?_eq_getElem hi] at e
      cases e
      exact ⟨_, List.getElem?_eq_getElem _, rr⟩
    rcases hs z (List.mem_of_getElem? hz') with rfl | ⟨a, ys, rfl, ha⟩
    · have rz : its[i] = Value.none := rz
      rw [rz]
      exact SeqAt.EqAt.same .none
    · have rz : its[i] = Value.ref a := rz
      rw [rz]
      obtain ⟨js, rj, pj, _⟩ := I.tuple (SqT.of ha)
      exact PySem.SeqAt.EqAt.tuple_none (show s.heap.IsTuple a js.toArray from pj) (by show X.A.in1.units < cLine; exact hu)
  · rw [show its.toArray.any isNV = its.any isNV by simp, any_isN r]
    exact q
end
end L2
namespace L2
open PySem PySem.Spec PyProof.Rows
/-! ### texts and lists so many times, the place of a None -/
def repS (z : Str) (n : Nat) : Str := ⟨(List.replicate n z.cps).foldl (· ++ ·) #[]⟩
theorem foldl_cat {α : Type} (a : Array α) : ∀ (n : Nat) (acc : Array α), (List.replicate n a).foldl (· ++ ·) acc = acc ++ (List.replicate n a.toList).flatten.toArray
  | 0, acc => by simp
  | n + 1, acc => by
    rw [List.replicate_succ, List.foldl_cons, foldl_cat a n (acc ++ a), List.replicate_succ, List.flatten_cons]
    apply Array.ext'
    simp
theorem repS_cps (z : Str) (n : Nat) : (repS z n).cps.toList = (List.replicate n z.cps.toList).flatten := by
  unfold repS
  rw [foldl_cat]
  simp
theorem repS_length (z : Str) (n : Nat) : (repS z n).length = n * z.length := by
  show (repS z n).cps.size = _
  rw [← Array.length_toList, repS_cps]
  simp [Str.length]
section
variable {X : Cx}
def rMulStr : R2 := fun x y H Q => ∃ z n, x = .str z ∧ y = .int n ∧ 2 ≤ n ∧ n ≤ 10000 ∧ 1 ≤ z.length ∧ z.length ≤ 100 ∧ Q (.str (repS z n.toNat)) H
theorem op_mulStr : OpR X (binaryOp .Mult) rMulStr := by
  intro pins s σ H x y v u Q I rx ry h
  obtain ⟨z, n, rfl, rfl, h1, h2, h3, h4, q⟩ := h
  obtain ⟨t, rfl⟩ := rx
  obtain ⟨t', rfl⟩ := ry
  have c1 : ¬ n < 1 := by omega
  have c2 : ¬ ((n == 1 || z.length == 0) = true) := by
    simp only [Bool.or_eq_true, beq_iff_eq]
    omega
  have hz : z.length * n.toNat ≤ 100 * 10000 := Nat.mul_le_mul h4 (by omega)
  refine P.mul_str (by simp; omega) (fun _ _ => ?_) (fun _ _ => ?_) ?_
  · have : (100 : Int) ≤ (2 ^ 63 - 1) / n := Int.le_ediv_of_mul_le (by omega) (by omega)
    omega
  · unfold Builtin.Str.tooLong
    simp only [sizeLine_eq, decide_eq_false_iff_not]
    omega
  · rw [if_neg c1, if_neg c2]
    refine ⟨?_, ⟨.str _, H, I.tok _, ⟨_, rfl⟩, q⟩⟩
    show (repS z n.toNat).length ≤ sizeLine
    rw [repS_length, sizeLine_eq, Nat.mul_comm]
    omega
def rMulList (K : PySem.W.Frag) : R2 := fun x y H Q => ∃ p xs n, x = .ref p ∧ y = .int n ∧ H p = some (.lst xs) ∧ 1 ≤ xs.length ∧ xs.length ≤ 100 ∧ 0 ≤ n ∧ n ≤ 1000 ∧ ∀ l, H l = none → Q (.ref l) (upd H l (.lst (List.replicate n.toNat xs).flatten))
theorem vals_flat {xs : List V} {us : List Value} (r : Vals xs us) : ∀ n, Vals (List.replicate n xs).flatten (List.replicate n us).flatten
  | 0 => .nil
  | n + 1 => by
    rw [List.replicate_succ, List.replicate_succ, List.flatten_cons, List.flatten_cons]
    exact r.append (vals_flat r n)
theorem op_mulList : OpR X (binaryOp .Mult) (rMulList X.K) := by
  intro pins s σ H x y v u Q I rx ry h
  obtain ⟨p, xs, n, rfl, rfl, hH, h1, h2, h3, h4, q⟩ := h
  cases rx
  obtain ⟨t', rfl⟩ := ry
  obtain ⟨z, its, k, r, hl, e⟩ := I.lstM hH
  have hi : its.length = xs.length := by have := r.length; omega
  have hm : its.toArray.size * n.toNat ≤ 100 * 1000 := Nat.mul_le_mul (by rw [List.size_toArray]; omega) (by omega)
  refine wpAny_binaryOp_repeat_ref (T := "list") (U := "int") (by decide) ⟨_, e, rfl⟩ (fun s' => typeIs_int s' n t') noFill_list_mul F.fills_int_mul F.slot_int_rmul repeat_list F.slot_int_index.lookup
    (call_meets F.slot_int_rmul (typeIs_int s n t') F.entry_int_rmul (F.args_int_rmul_2 _ _) (int___rmul___int_list n t' p its.toArray k)
      ⟨e, rfl, ⟨_, e, rfl⟩, call_meets F.slot_list_mul ⟨_, e, rfl⟩ F.entry_list_mul (F.args_list_mul_2 _ _)
        (AutoListH.list___mul___list_int_3 p its.toArray k n t' (by simp [Builtin.List.listFitsIndex]; omega) (by omega) (by simp [Builtin.List.listTooLong, sizeLine] at hm ⊢; omega))
        ⟨e, ?_⟩⟩)
  have hne : its.toArray.isEmpty = false := by
    cases its with
    | nil => simp at hi; omega
    | cons _ _ => rfl
  rw [hne, if_neg (by decide), foldl_cat]
  have er : (#[] : Array Value) ++ (List.replicate n.toNat its.toArray.toList).flatten.toArray = (List.replicate n.toNat its).flatten.toArray := by simp
  rw [er]
  refine ⟨.ref _, _, I.lnew (t' := s.toks) (vals_flat r n.toNat) ?_, rfl, q _ I.fresh⟩
  have : (List.replicate n.toNat xs).flatten.length = n.toNat * xs.length := by simp
  rw [this, sizeLine_eq, Nat.mul_comm, ← hi]
  rw [List.size_toArray] at hm
  omega
def rIndexN (K : PySem.W.Frag) : V → List V → Hp → VK → Prop := fun x vs H Q => ∃ p xs j, x = .ref p ∧ vs = [.non] ∧ SqL K H p xs ∧ (∀ z ∈ xs, z = .non ∨ ∃ a ys, z = .ref a ∧ H a = some (.tup ys)) ∧ xs[j]? = some .non ∧ (∀ m, m < j → xs[m]? ≠ some .non) ∧ Q (.int (j : Nat)) H
theorem mt_index (hu : X.A.units + 1 < cLine) : MtM X "list.index" (rIndexN X.K) := by
  intro pins s σ H x vs v us Q I rx rv h
  obtain ⟨p, xs, j, rfl, rfl, hq, hs, hj, hm, q⟩ := h
  cases rx
  obtain ⟨u, rfl, ru⟩ := rv.one
  cases ru
  obtain ⟨its, r, pl, hz⟩ := I.list hq
  have hl := pl.isList
  obtain ⟨⟨cls, dd, data, sl⟩, ho, hc, n, hd⟩ := id hl
  simp only at hc hd
  subst hc hd
  have hlen := r.length
  have hjl : j < xs.length := (List.getElem?_eq_some_iff.mp hj).1
  have at_ : ∀ i (h1 : i < xs.length) (h2 : i < its.length), RelV xs[i] its[i] := fun i h1 h2 => by
    obtain ⟨w', e, rr⟩ := r.get (i := i) (x := xs[i]) (List.getElem?_eq_getElem _)
    rw [List.getElem?_eq_getElem h2] at e
    cases e
    exact rr
  refine call_meets PySem.F.slot_list_index ⟨_, ho, rfl⟩ PySem.F.entry_list_index (PySem.F.args_list_index_2 _ _)
    (PySem.SeqAt.list_indexAt p its.toArray n dd sl .none isNV j (by simpa using (by omega : j < its.length)) (by rw [sizeLine_eq] at hz; omega) ?_ ?_) ⟨ho, fun y hy => ?_, ⟨.int j, H, I.tok _, ⟨_, rfl⟩, q⟩⟩
  · have := at_ j hjl (by omega)
    rw [(List.getElem?_eq_some_iff.mp hj).2] at this
    have e : its[j]'(by omega) = Value.none := this
    show isNV (its.toArray[j]'(by simp; omega)) = true
    simp only [List.getElem_toArray, e]
    rfl
  · intro m hm1 hm2
    have h1 : m < its.length := by simpa using hm1
    have := at_ m (by omega) h1
    show isNV (its.toArray[m]'hm1) = false
    simp only [List.getElem_toArray]
    rcases hs xs[m] (List.getElem_mem _) with e | ⟨a, ys, e, _⟩
    · exact absurd (by rw [List.getElem?_eq_getElem (by omega), e]) (hm m hm2)
    · rw [e] at this
      have e : its[m] = Value.ref a := this
      rw [e]; rfl
  · have hw : y ∈ its := by simpa using hy
    obtain ⟨i, hi, rfl⟩ := List.getElem_of_mem hw
    have rz := at_ i (by omega) hi
    rcases hs xs[i] (List.getElem_mem _) with e | ⟨a, ys, e, ha⟩
    · rw [e] at rz
      have rz : its[i] = Value.none := rz
      rw [rz]
      exact SeqAt.EqAt.same .none
    · rw [e] at rz
      have rz : its[i] = Value.ref a := rz
      rw [rz]
      obtain ⟨js, rj, pj, _⟩ := I.tuple (SqT.of ha)
      exact PySem.SeqAt.EqAt.tuple_none (show s.heap.IsTuple a js.toArray from pj) (by show X.A.in1.units < cLine; exact hu)
end
end L2
namespace WR
open PySem
/-! ### texts split and joined -/
theorem cps_append (x y : Str) : (x ++ y).cps.toList = x.cps.toList ++ y.cps.toList := by
  show (x.cps ++ y.cps).toList = _
  simp
theorem cps_inj {x y : Str} (h : x.cps.toList = y.cps.toList) : x = y := by
  obtain ⟨⟨a⟩⟩ := x
  obtain ⟨⟨b⟩⟩ := y
  exact congrArg (fun l => (⟨⟨l⟩⟩ : Str)) h
theorem cut_eq {c : Nat} : ∀ {a b x y : List Nat}, c ∉ a → c ∉ b → a ++ c :: x = b ++ c :: y → a = b ∧ x = y
  | [], [], _, _, _, _, h => ⟨rfl, (List.cons.inj h).2⟩
  | [], z :: b, _, _, _, hb, h => absurd (List.cons.inj h).1 fun e => hb (by rw [e]; simp)
  | z :: a, [], _, _, ha, _, h => absurd (List.cons.inj h).1 fun e => ha (by rw [← e]; simp)
  | z :: a, z' :: b, x, y, ha, hb, h => by
    obtain ⟨h1, h2⟩ := List.cons.inj h
    obtain ⟨e1, e2⟩ := cut_eq (fun q => ha (List.mem_cons_of_mem _ q)) (fun q => hb (List.mem_cons_of_mem _ q)) h2
    exact ⟨by rw [h1, e1], e2⟩
theorem join_cut {c : Nat} (a b : Str) (r : List Str) : (Str.join ⟨#[c]⟩ (a :: b :: r)).cps.toList = a.cps.toList ++ c :: (Str.join ⟨#[c]⟩ (b :: r)).cps.toList := by
  show ((a ++ ⟨#[c]⟩) ++ Str.join ⟨#[c]⟩ (b :: r)).cps.toList = _
  rw [cps_append, cps_append, List.append_assoc]
  rfl
theorem join_one (c : Nat) (a : Str) : (Str.join ⟨#[c]⟩ [a]).cps.toList = a.cps.toList := rfl
theorem parts_uniq {c : Nat} : ∀ {ps qs : List Str}, ps ≠ [] → qs ≠ [] → (∀ p ∈ ps, c ∉ p.cps.toList) → (∀ p ∈ qs, c ∉ p.cps.toList) → Str.join ⟨#[c]⟩ ps = Str.join ⟨#[c]⟩ qs → ps = qs
  | [], _, h, _, _, _, _ => absurd rfl h
  | _, [], _, h, _, _, _ => absurd rfl h
  | [a], [b], _, _, _, _, e => by have e : a = b := e; rw [e]
  | [a], b :: b' :: r, _, _, ha, hb, e => by
    have e := congrArg (fun s => s.cps.toList) e
    simp only [join_cut] at e
    have : c ∈ a.cps.toList := by
      rw [show a.cps.toList = _ from e]
      simp
    exact absurd this (ha a (by simp))
  | a :: a' :: r, [b], _, _, ha, hb, e => by
    have e := congrArg (fun s => s.cps.toList) e
    simp only [join_cut] at e
    have : c ∈ b.cps.toList := by
      rw [show b.cps.toList = _ from e.symm]
      simp
    exact absurd this (hb b (by simp))
  | a :: a' :: r, b :: b' :: r', _, _, ha, hb, e => by
    have e := congrArg (fun s => s.cps.toList) e
    simp only [join_cut] at e
    obtain ⟨e1, e2⟩ := cut_eq (ha a (by simp)) (hb b (by simp)) e
    have := parts_uniq (ps := a' :: r) (qs := b' :: r') (by simp) (by simp) (fun p hp => ha p (List.mem_cons_of_mem _ hp)) (fun p hp => hb p (List.mem_cons_of_mem _ hp)) (cps_inj e2)
    rw [cps_inj e1, this]
theorem split_ne (x y : Str) : Txt.split x y ≠ [] := by
  unfold Txt.split
  split
  · simp
  · split
    · simp
    · intro h
      have := congrArg List.length h
      rw [length_partsBetween] at this
      simp at this
theorem split_joined {c : Nat} {ps : List Str} (h : ps ≠ []) (hf : ∀ p ∈ ps, c ∉ p.cps.toList) : Txt.split (Txt.join ⟨#[c]⟩ ps) ⟨#[c]⟩ = ps := by
  have e : Txt.join ⟨#[c]⟩ ps = Str.join ⟨#[c]⟩ ps := StrLaws.glued_eq_join _ _
  refine parts_uniq (split_ne _ _) h (StrLaws.split_free _ c) hf ?_
  rw [StrLaws.join_split, e]
theorem split_two {c : Nat} {a b : Str} (ha : c ∉ a.cps.toList) (hb : c ∉ b.cps.toList) : Txt.split (a ++ ⟨#[c]⟩ ++ b) ⟨#[c]⟩ = [a, b] := by
  have := split_joined (c := c) (ps := [a, b]) (by simp) (fun p hp => by
    rcases List.mem_cons.mp hp with rfl | hp
    · exact ha
    · rw [List.mem_singleton.mp hp]; exact hb)
  rw [show Txt.join ⟨#[c]⟩ [a, b] = Str.join ⟨#[c]⟩ [a, b] from StrLaws.glued_eq_join _ _] at this
  exact this
end WR
namespace WR
open PySem PySem.NumText
/-! ### numbers in figures -/
abbrev numT (n : Int) : Str := Str.ofString (toString n)
theorem numT_digits {m : Nat} : AllDigits (numT m).cps.toList := by
  intro c hc
  rw [PySem.W.KIN.signs_num] at hc
  obtain ⟨ch, hch, e⟩ := List.mem_map.mp hc
  have r := PyProof.Rows.digit_range (Nat.isDigit_of_mem_toDigits (by decide) (by decide) hch)
  rw [← e]
  exact r
theorem numT_len {m : Nat} (h : m < 10 ^ 7) : 1 ≤ (numT m).cps.toList.length ∧ (numT m).cps.toList.length ≤ 7 := by
  rw [PySem.W.KIN.signs_num, List.length_map]
  exact ⟨PyProof.Rows.tDigits_len_ge 10 m, PyProof.Rows.digits10_le (by decide) h⟩
theorem digits_head : ∀ (m : Nat) {r : List Nat}, (Nat.toDigits 10 m).map Char.toNat = 48 :: r → m = 0 := by
  intro m
  induction m using Nat.strongRecOn with
  | _ m ih =>
    intro r h
    by_cases hm : m < 10
    · rw [Nat.toDigits_of_lt_base hm] at h
      have : ∀ d : Nat, d < 10 → (Nat.digitChar d).toNat = 48 → d = 0 := by decide
      exact this m hm (List.cons.inj h).1
    · have hd : m % 10 < 10 := Nat.mod_lt m (by decide)
      have t : Nat.toDigits 10 (m / 10) ++ Nat.toDigits 10 (m % 10) = Nat.toDigits 10 (10 * (m / 10) + m % 10) := Nat.toDigits_append_toDigits (by decide) (by omega) hd
      rw [Nat.div_add_mod] at t
      rw [← t, List.map_append] at h
      have g := PyProof.Rows.tDigits_len_ge 10 (m / 10)
      cases q : (Nat.toDigits 10 (m / 10)).map Char.toNat with
      | nil => have := congrArg List.length q; rw [List.length_map] at this; rw [this] at g; exact absurd g (by decide)
      | cons a s =>
        rw [q] at h
        have := (List.cons.inj h).1
        rw [this] at q
        have := ih (m / 10) (by omega) q
        omega
/-- figures, one to seven, none ahead a nought -/
def numB (x : Str) : Bool := decide (1 ≤ x.length) && decide (x.length ≤ 7) && x.cps.toList.all (fun c => decide (48 ≤ c ∧ c ≤ 57)) && !(decide (x.cps.toList.head? = some 48) && decide (x ≠ "0"))
def numM (x : Str) : Option Int := if numB x = true then some (digitsVal x.cps.toList : Nat) else none
theorem len_cps (x : Str) : x.length = x.cps.toList.length := by simp [Str.length]
theorem numM_numT {m : Nat} (h : m < 10 ^ 7) : numM (numT m) = some (m : Int) := by
  have hl := numT_len h
  have hb : numB (numT m) = true := by
    unfold numB
    rw [len_cps, decide_eq_true hl.1, decide_eq_true hl.2]
    have : (numT m).cps.toList.all (fun c => decide (48 ≤ c ∧ c ≤ 57)) = true := List.all_eq_true.mpr fun c hc => decide_eq_true (numT_digits c hc)
    rw [this]
    by_cases c : (numT m).cps.toList.head? = some 48
    · have e : m = 0 := by
        cases q : (numT m).cps.toList with
        | nil => rw [q] at c; cases c
        | cons a r =>
          rw [q] at c
          have : a = 48 := Option.some.inj c
          subst this
          rw [PySem.W.KIN.signs_num] at q
          exact digits_head m q
      subst e
      decide +kernel
    · rw [decide_eq_false c]; rfl
  unfold numM
  rw [if_pos hb, PySem.W.KIN.signs_num, PySem.W.KIN.val_back]
theorem numT_free {m : Nat} {c : Nat} (h : c < 48) : c ∉ (numT m).cps.toList := fun z => by have := numT_digits c z; omega
end WR
namespace L2
open PySem PySem.Spec PyProof.Rows
/-! ### long displays of written constants -/
theorem star_const (v : PySem.Const) (j : Nat) (p : Pos) (es : List Expr) (env : Env) : starEach (.Constant v j p :: es) env = (false, eval (.Constant v j p) env) :: starEach es env := by rfl
theorem star_bin (a : Expr) (o : Operator) (b : Expr) (p : Pos) (es : List Expr) (env : Env) : starEach (.BinOp a o b p :: es) env = (false, eval (.BinOp a o b p) env) :: starEach es env := by rfl
section
variable {X : Cx} {es : List Expr} {te : TE} {t : TA}
theorem pa_consC {v : PySem.Const} {j : Nat} {p : Pos} (ha : PE X (.Constant v j p) te) (hr : PA X es t) : PA X (.Constant v j p :: es) (tCons te t) := pa_cons ha hr (star_const v j p es X.env)
theorem pa_consB {a b : Expr} {o : Operator} {p : Pos} (ha : PE X (.BinOp a o b p) te) (hr : PA X es t) : PA X (.BinOp a o b p :: es) (tCons te t) := pa_cons ha hr (star_bin a o b p es X.env)
end
end L2
namespace L2
open PySem PySem.Spec PyProof.Rows
/-! ### the rules as kept facts, for long displays -/
structure XE (X : Cx) (e : Expr) (t : TE) : Prop where
  out : PE X e t
structure XA (X : Cx) (es : List Expr) (t : TA) : Prop where
  out : PA X es t
structure XS (X : Cx) (st : Stmt) (t : TS) : Prop where
  out : PS X st t
structure XSs (X : Cx) (sts : List Stmt) (t : TS) : Prop where
  out : PSs X sts t
section
variable {X : Cx} {e a b : Expr} {es : List Expr} {te ta tb : TE} {tl : TA} {st : Stmt} {sts : List Stmt} {t u : TS} {pos pos' : Pos}
theorem xss_cons (h1 : XS X st t) (h2 : XSs X sts u) : XSs X (st :: sts) (tSeq t u) := ⟨pss_cons h1.out h2.out⟩
theorem xss_one (h1 : XS X st t) : XSs X [st] t := ⟨pss_one h1.out⟩
theorem xs_ret (h : XE X e te) : XS X (.Return (some e) pos) (tRet te) := ⟨ps_ret h.out⟩
theorem xs_set {i : Nat} {x : Str} (hN : X.N.Nodup) (hi : X.N[i]? = some x) (hx : Loc X.env.scope x) (he : XE X e te) (hs : swapsWith e (some (.Name x pos')) pos.line X.env = pure false := by rfl) (hf : X.fn x = true ∨ X.env.scope.names.lookup x = some .local := by first | exact .inl rfl | exact .inr rfl | assumption) :
    XS X (.Assign [.Name x pos'] e pos) (tAsg te (gName i)) := ⟨ps_set hN hi hx he.out hs hf⟩
theorem xe_lst (h : XA X es tl) : XE X (.List es pos) (tLst tl) := ⟨pe_lst h.out⟩
theorem xa_nil : XA X [] tNil := ⟨pa_nil⟩
theorem xa_consC {v : PySem.Const} {j : Nat} {p : Pos} (ha : XE X (.Constant v j p) te) (hr : XA X es tl) : XA X (.Constant v j p :: es) (tCons te tl) := ⟨pa_consC ha.out hr.out⟩
theorem xa_consB {o : Operator} {p : Pos} (ha : XE X (.BinOp a o b p) te) (hr : XA X es tl) : XA X (.BinOp a o b p :: es) (tCons te tl) := ⟨pa_consB ha.out hr.out⟩
theorem xe_str {x : Str} {j : Nat} : XE X (.Constant (.str x) j pos) (tC (.str x)) := ⟨pe_str⟩
theorem xe_int {i : Int} {j : Nat} : XE X (.Constant (.int i) j pos) (tC (.int i)) := ⟨pe_int⟩
theorem xe_op {op : Operator} {r : R2} (ho : OpR X (binaryOp op) r) (ha : XE X a ta) (hb : XE X b tb) : XE X (.BinOp a op b pos) (tOp r ta tb) := ⟨pe_op ho ha.out hb.out⟩
theorem xe_ix {r : R2} (hr : IxR X r) (ha : XE X a ta) (hb : XE X b tb) (hs : PlainIx b) : XE X (.Subscript a b pos) (tOp r ta tb) := ⟨pe_ix hr ha.out hb.out hs⟩
theorem xv (i : Nat) {x : Str} (hN : X.N[i]? = some x := by rfl) (hv : Vis X.env.scope x := by first | exact Or.inl rfl | exact Or.inr (Or.inl rfl) | exact Or.inr (Or.inr rfl)) (hd : (x == ("__debug__" : Str)) = false := by decide)
    (hcd : (x == ("__classdict__" : Str)) = false := by decide) : XE X (.Name x pos) (tVar i) := ⟨pe_var hN hv hd hcd⟩
end
theorem Fun.okX {P : Program} {w : World} {K : PySem.W.Frag} {mg : Str → Option Value} {base : Heap} {x qual : Str} {st : Stmt} {f : Addr} {fd : FuncData} {N ps : List Str} {k : Nat} {sp : Sp} (F : Fun K x qual st f fd) (S : FnScope N ps (defScope st)) (len : ∀ vs H Q E, sp vs H Q E → vs.length = ps.length)
    (hbody : ∀ (cdv : Value) (A : Around) (outer : List Env) (s : Shared) (H : Hp) (vs : List V) (Q : VK) (E : XK), Room k (A.deeper (envOfC qual (defScope st) s.heap.objs.size f cdv)) → sp vs H Q E →
      ∃ t, XSs (cxOf CX0 P w K mg base N qual (defScope st) f cdv A outer s H E).nox (defBody st) t ∧ t { nx := fun _ H' => Q .non H', rt := Q } (start N vs) H) : FnOk P w K mg base CX0 (k + 1) f fd ps sp :=
  F.ok S len fun cdv A outer s H vs Q E hr h => let ⟨t, h1, h2⟩ := hbody cdv A outer s H vs Q E hr h; ⟨t, h1.out, h2⟩
end L2
namespace L2
open PySem
/-! ### the places of a set's table rise -/
def Rise (l : List Nat) : Prop := l.Pairwise (· < ·)
theorem Rise.get {l : List Nat} (h : Rise l) {i j : Nat} (hi : i < l.length) (hj : j < l.length) (hij : i < j) : l[i] < l[j] := List.pairwise_iff_getElem.mp h i j hi hj hij
/-- a table as a maker leaves it: led or not, its places rise, nothing was taken out -/
structure Tb (b : Bool) (t : SetTable) : Prop where
  led : t.led = b
  rise : Rise t.place.toList
  none : t.dummies = #[]
theorem Tb.slot {b : Bool} {t : SetTable} (h : Tb b t) (j : Nat) : t.slot j = .empty ∨ ∃ i, t.slot j = .live i := by
  unfold SetTable.slot
  simp only
  by_cases c : (t.place[SetTable.below t.place j]? == some j) = true
  · rw [if_pos c]; exact .inr ⟨_, rfl⟩
  · rw [if_neg c]
    have : SetTable.has t.dummies j = false := by rw [h.none]; rfl
    rw [this]
    exact .inl rfl
end L2
namespace L2
open PySem PySem.Spec PyProof.Rows
/-! ### a set of ints that is made of a list -/
def valI : Value → Int
  | .int n _ => n
  | _ => 0
def keysI (es : Array (Int × Value)) : List Int := es.toList.map fun e => valI e.2
def SetI (prog : Program) (w : World) (h : Heap) (a : Addr) (b : Bool) (ks : List Int) : Prop := ∃ o es ep t, h.get? a = some o ∧ o.ExactSet ∧ o.data = .set es ep t ∧ ElemsOf (intKind prog w) es.toList ∧ ks.Perm (keysI es) ∧ es.size < scanBound ∧ t.fits es.size = true ∧ Tb b t
section
variable {prog : Program} {w : World} {A : Around} {E : Value → Shared → Prop} {s : Shared}
theorem SetI.keep {h h' : Heap} {a : Addr} {b : Bool} {ks : List Int} (S : SetI prog w h a b ks) (k : ∀ o, h.get? a = some o → h'.get? a = some o) : SetI prog w h' a b ks :=
  let ⟨o, es, ep, t, h1, r⟩ := S; ⟨o, es, ep, t, k o h1, r⟩
end
end L2
namespace L2
open PySem PySem.Spec PyProof.Rows
/-- whom a list's first numbers are -/
def Those (ks ns : List Int) : Prop := ks.Nodup ∧ ∀ x, x ∈ ks ↔ x ∈ ns
theorem Those.len {ks ns : List Int} (h : Those ks ns) : ks.length ≤ ns.length := by
  have aux : ∀ {l m : List Int}, l.Nodup → (∀ x ∈ l, x ∈ m) → l.length ≤ m.length := by
    intro l
    induction l with
    | nil => intro m _ _; exact Nat.zero_le _
    | cons a l ih =>
      intro m nd sub
      have nd := List.nodup_cons.mp nd
      have ha := sub a (List.mem_cons_self ..)
      have := ih (m := m.erase a) nd.2 fun x hx => by
        have hm := sub x (List.mem_cons_of_mem _ hx)
        have ne : x ≠ a := fun z => nd.1 (z ▸ hx)
        exact (List.mem_erase_of_ne ne).mpr hm
      rw [List.length_erase_of_mem ha] at this
      have : 0 < m.length := List.length_pos_iff.mpr (List.ne_nil_of_mem ha)
      simp only [List.length_cons]
      omega
  exact aux h.1 fun x hx => (h.2 x).mp hx
section
variable {prog : Program} {w : World} {A : Around} {R : Result → Shared → Prop} {I : Addr} {fp wr : List Addr} {G : Array GenState → Array GenState → Prop} {P : Nat → Value → Prop} {St : Nat → Shared → Prop} {ns : List Int} {b : Bool}
end
section
variable {prog : Program} {w : World} {A : Around} {E : Value → Shared → Prop} {s : Shared}
def ledOf (w : World) : Bool := !w.params.followText "set-order"
abbrev freshSet (b : Bool) : Obj := { cls := .type "set", dict := none, data := .set #[] 0 (.fresh 0 0 b) }
end
end L2
namespace L2
open PySem PySem.Spec PyProof.Rows
/-! ### what a set is walked by -/
section
variable {prog : Program} {w : World} {A : Around} {E : Value → Shared → Prop} {s : Shared}
/-- the order in which a table's elements come (no order is drawn for it) -/
def outOf (w : World) (a : Addr) (ep : Nat) (es : Array (Int × Value)) : Array (Int × Value) := if w.params.followText "set-order" = true then pickOrder (w.params.setOrder a ep) es else es
/-- the slot that is looked at for the i-th element -/
def slotAt (w : World) (t : SetTable) (i : Nat) : Nat := if w.params.followText "set-order" = true then 0 else match i with
  | 0 => 0
  | i + 1 => t.place.getD i 0 + 1
end
end L2
namespace L2
open PySem PySem.Spec PyProof.Rows
abbrev setIter (first : Value) (i : Nat) (a : Addr) (n ep : Nat) : Obj := { cls := .type "set_iterator", data := .fields #[first, rawInt i, .ref a, rawInt n, rawInt ep] }
section
variable {prog : Program} {w : World} {A : Around} {E : Value → Shared → Prop} {s : Shared}
end
end L2
namespace L2
open PySem PySem.Spec PyProof.Rows
section
variable {prog : Program} {w : World} {A : Around} {E : Value → Shared → Prop} {s : Shared}
/-! an order is drawn -/
abbrev placesObj (ord : List Nat) : Obj := { cls := .type "tuple", data := .seq (ord.map fun (i : Nat) => rawInt i).toArray }
end
end L2
namespace L2
open PySem PySem.Spec PyProof.Rows
section
variable {prog : Program} {w : World} {A : Around} {E : Value → Shared → Prop} {s : Shared}
/-- what the walk of a set gives: its numbers, each once, in some order -/
def GivesI (P : Nat → Value → Prop) (ks : List Int) : Prop := ∀ acc : Array Value, ItemsOf P acc ks.length → ∃ ns, IntsAre acc.toList ns ∧ ns.Perm ks
end
end L2
namespace L2
open PySem PySem.Spec PyProof.Rows
section
variable {prog : Program} {w : World} {A : Around} {E : Value → Shared → Prop} {s : Shared}
end
/-! ### the rules -/
def setO (P : Program) (w : World) (a : Addr) (ks : List Int) : HO := .ext fun h => SetI P w h a (ledOf w) ks
section
variable {X : Cx} {pins : List (Addr × Obj)} {σ : St} {H : Hp} {s : Shared}
end
end L2
namespace L2
open PySem PySem.Spec PyProof.Rows
/-! ### dict(xs), xs a list of pairs whose first is an int; d.get(k) -/
section
variable {prog : Program} {w : World} {A : Around} {E : Value → Shared → Prop} {s : Shared}
end
end L2
namespace L2
open PySem PySem.Spec PyProof.Rows
section
variable {prog : Program} {w : World} {A : Around} {E : Value → Shared → Prop} {s : Shared} {R : Result → Shared → Prop} {K : Type} [DecidableEq K] {knd : KeyKind prog w K}
/-- the pairs are there -/
def PairsIn (knd : KeyKind prog w K) (h : Heap) (items : Array Value) (ps : List (K × Value)) (bad : List Addr) : Prop := items.size = ps.length ∧ ∀ (i : Nat) (v : Value) (p : K × Value), items[i]? = some v → ps[i]? = some p → ∃ a kv, v = .ref a ∧ a ∉ bad ∧ knd.is p.1 kv = true ∧ h.IsTuple a #[kv, p.2]
end
end L2
namespace L2
open PySem PySem.Spec PyProof.Rows
section
variable {X : Cx}
end
end L2
namespace L2
open PySem PySem.Spec PyProof.Rows
/-! ### range(n) as a thing, list of it; xs[i] += k -/
section
variable {X : Cx}
end
end L2
namespace L2
open PySem PySem.Spec PyProof.Rows
end L2
namespace WB
open PySem
theorem bt_ValueError : bootBuiltins "ValueError" = some (.type "ValueError") := by decide +kernel
theorem bt_isinstance : bootBuiltins "isinstance" = some (.builtin "isinstance") := by decide +kernel
theorem bt_int : bootBuiltins "int" = some (.type "int") := by decide +kernel
theorem bt_bool : bootBuiltins "bool" = some (.type "bool") := by decide +kernel
theorem bt_list : bootBuiltins "list" = some (.type "list") := by decide +kernel
theorem bt_tuple : bootBuiltins "tuple" = some (.type "tuple") := by decide +kernel
theorem bt_len : bootBuiltins "len" = some (.builtin "len") := by decide +kernel
theorem bt_all : bootBuiltins "all" = some (.builtin "all") := by decide +kernel
theorem bt_any : bootBuiltins "any" = some (.builtin "any") := by decide +kernel
theorem bt_str : bootBuiltins "str" = some (.type "str") := by decide +kernel
end WB
namespace WR
open PySem L2
def top (i : Nat) : Stmt := PySem.Challenge.pw_wellroads_k09_texts_misread.main.body.getD i (.Pass ⟨0, 0, 0, 0⟩)
abbrev s_BadRow_init : Stmt := inClass (top 6) 0
abbrev s_is_number : Stmt := top 10
abbrev s_is_whole : Stmt := top 11
abbrev s_is_road : Stmt := top 12
abbrev s_is_tree : Stmt := top 13
abbrev s_steps : Stmt := top 14
abbrev s_reached : Stmt := top 15
abbrev s_Tree_init : Stmt := inClass (top 16) 0
abbrev s_Tree_roads : Stmt := inClass (top 16) 1
abbrev s_number_of : Stmt := top 20
abbrev s_villages_of : Stmt := top 21
abbrev s_road_of : Stmt := top 22
abbrev s_read : Stmt := top 23
abbrev s__law_cell_at : Stmt := top 25
abbrev s__law_draw : Stmt := top 26
abbrev s__law_refused : Stmt := top 27
abbrev s__law_bad_road : Stmt := top 28
abbrev s__law_bad_head : Stmt := top 29
abbrev s__law_whole : Stmt := top 30
abbrev s_law : Stmt := top 31
structure Adr where
  f_BadRow_init : Addr
  d_BadRow_init : FuncData
  f_is_number : Addr
  d_is_number : FuncData
  f_is_whole : Addr
  d_is_whole : FuncData
  f_is_road : Addr
  d_is_road : FuncData
  f_is_tree : Addr
  d_is_tree : FuncData
  f_steps : Addr
  d_steps : FuncData
  f_reached : Addr
  d_reached : FuncData
  f_Tree_init : Addr
  d_Tree_init : FuncData
  f_Tree_roads : Addr
  d_Tree_roads : FuncData
  f_number_of : Addr
  d_number_of : FuncData
  f_villages_of : Addr
  d_villages_of : FuncData
  f_road_of : Addr
  d_road_of : FuncData
  f_read : Addr
  d_read : FuncData
  f__law_cell_at : Addr
  d__law_cell_at : FuncData
  f__law_draw : Addr
  d__law_draw : FuncData
  f__law_refused : Addr
  d__law_refused : FuncData
  f__law_bad_road : Addr
  d__law_bad_road : FuncData
  f__law_bad_head : Addr
  d__law_bad_head : FuncData
  f__law_whole : Addr
  d__law_whole : FuncData
  f_law : Addr
  d_law : FuncData
  C_RoadError : Addr
  C_BadTree : Addr
  C_NoVillage : Addr
  C_NoRoad : Addr
  C_BadNumber : Addr
  C_BadRow : Addr
  C_Tree : Addr
  k_MOST_VILLAGES : Tok
  k_MOST_LENGTH : Tok
  k_FIGURES : Tok
  k_MOST_FIGURES : Tok
structure Txt (K : PySem.W.Frag) (mg : Str → Option Value) (t : Adr) : Prop where
  z_ValueError : mg "ValueError" = none
  z_all : mg "all" = none
  z_any : mg "any" = none
  z_bool : mg "bool" = none
  z_int : mg "int" = none
  z_isinstance : mg "isinstance" = none
  z_len : mg "len" = none
  z_list : mg "list" = none
  z_range : mg "range" = none
  z_str : mg "str" = none
  z_tuple : mg "tuple" = none
  g_MOST_VILLAGES : mg "MOST_VILLAGES" = some (.int 12 t.k_MOST_VILLAGES)
  g_MOST_LENGTH : mg "MOST_LENGTH" = some (.int 1000000 t.k_MOST_LENGTH)
  g_FIGURES : mg "FIGURES" = some (.str "0123456789" t.k_FIGURES)
  g_MOST_FIGURES : mg "MOST_FIGURES" = some (.int 7 t.k_MOST_FIGURES)
  F_BadRow_init : Fun K "__init__" "BadRow.__init__" s_BadRow_init t.f_BadRow_init t.d_BadRow_init
  b_BadRow_init : Binds K t.d_BadRow_init ["self", "row"] []
  I_BadRow : PySem.W.findIn K (.ref t.C_BadRow) "__init__" = some (some (.ref t.f_BadRow_init))
  F_is_number : Fun K "is_number" "is_number" s_is_number t.f_is_number t.d_is_number
  b_is_number : Binds K t.d_is_number ["value"] []
  m_is_number : mg "is_number" = some (.ref t.f_is_number)
  F_is_whole : Fun K "is_whole" "is_whole" s_is_whole t.f_is_whole t.d_is_whole
  b_is_whole : Binds K t.d_is_whole ["value", "least", "most"] []
  m_is_whole : mg "is_whole" = some (.ref t.f_is_whole)
  F_is_road : Fun K "is_road" "is_road" s_is_road t.f_is_road t.d_is_road
  b_is_road : Binds K t.d_is_road ["road", "villages"] []
  m_is_road : mg "is_road" = some (.ref t.f_is_road)
  F_is_tree : Fun K "is_tree" "is_tree" s_is_tree t.f_is_tree t.d_is_tree
  b_is_tree : Binds K t.d_is_tree ["villages", "roads"] []
  m_is_tree : mg "is_tree" = some (.ref t.f_is_tree)
  F_steps : Fun K "steps" "steps" s_steps t.f_steps t.d_steps
  b_steps : Binds K t.d_steps ["roads", "village"] []
  m_steps : mg "steps" = some (.ref t.f_steps)
  F_reached : Fun K "reached" "reached" s_reached t.f_reached t.d_reached
  b_reached : Binds K t.d_reached ["roads", "start"] []
  m_reached : mg "reached" = some (.ref t.f_reached)
  F_Tree_init : Fun K "__init__" "Tree.__init__" s_Tree_init t.f_Tree_init t.d_Tree_init
  b_Tree_init : Binds K t.d_Tree_init ["self", "villages", "roads"] []
  M_Tree : Mk K t.C_Tree t.f_Tree_init
  F_Tree_roads : Fun K "roads" "Tree.roads" s_Tree_roads t.f_Tree_roads t.d_Tree_roads
  b_Tree_roads : Binds K t.d_Tree_roads ["self"] []
  M_Tree_roads : Meth K t.C_Tree "roads" t.f_Tree_roads
  F_number_of : Fun K "number_of" "number_of" s_number_of t.f_number_of t.d_number_of
  b_number_of : Binds K t.d_number_of ["text"] []
  m_number_of : mg "number_of" = some (.ref t.f_number_of)
  F_villages_of : Fun K "villages_of" "villages_of" s_villages_of t.f_villages_of t.d_villages_of
  b_villages_of : Binds K t.d_villages_of ["row"] []
  m_villages_of : mg "villages_of" = some (.ref t.f_villages_of)
  F_road_of : Fun K "road_of" "road_of" s_road_of t.f_road_of t.d_road_of
  b_road_of : Binds K t.d_road_of ["row"] []
  m_road_of : mg "road_of" = some (.ref t.f_road_of)
  F_read : Fun K "read" "read" s_read t.f_read t.d_read
  b_read : Binds K t.d_read ["text"] []
  m_read : mg "read" = some (.ref t.f_read)
  F__law_cell_at : Fun K "_law_cell_at" "_law_cell_at" s__law_cell_at t.f__law_cell_at t.d__law_cell_at
  b__law_cell_at : Binds K t.d__law_cell_at ["_law_script", "_law_k"] []
  m__law_cell_at : mg "_law_cell_at" = some (.ref t.f__law_cell_at)
  F__law_draw : Fun K "_law_draw" "_law_draw" s__law_draw t.f__law_draw t.d__law_draw
  b__law_draw : Binds K t.d__law_draw ["_law_cell", "_law_k", "_law_many"] []
  m__law_draw : mg "_law_draw" = some (.ref t.f__law_draw)
  F__law_refused : Fun K "_law_refused" "_law_refused" s__law_refused t.f__law_refused t.d__law_refused
  b__law_refused : Binds K t.d__law_refused ["_law_text"] []
  m__law_refused : mg "_law_refused" = some (.ref t.f__law_refused)
  F__law_bad_road : Fun K "_law_bad_road" "_law_bad_road" s__law_bad_road t.f__law_bad_road t.d__law_bad_road
  b__law_bad_road : Binds K t.d__law_bad_road ["_law_which"] []
  m__law_bad_road : mg "_law_bad_road" = some (.ref t.f__law_bad_road)
  F__law_bad_head : Fun K "_law_bad_head" "_law_bad_head" s__law_bad_head t.f__law_bad_head t.d__law_bad_head
  b__law_bad_head : Binds K t.d__law_bad_head ["_law_which"] []
  m__law_bad_head : mg "_law_bad_head" = some (.ref t.f__law_bad_head)
  F__law_whole : Fun K "_law_whole" "_law_whole" s__law_whole t.f__law_whole t.d__law_whole
  b__law_whole : Binds K t.d__law_whole ["_law_more"] []
  m__law_whole : mg "_law_whole" = some (.ref t.f__law_whole)
  F_law : Fun K "law" "law" s_law t.f_law t.d_law
  b_law : Binds K t.d_law ["_law_script"] []
  m_law : mg "law" = some (.ref t.f_law)
  cl_Tree : Cls K t.C_Tree
  m_Tree : mg "Tree" = some (.ref t.C_Tree)
  n_Tree_road_list : NoAttr K t.C_Tree "road_list"
  n_Tree_size : NoAttr K t.C_Tree "size"
  m_RoadError : mg "RoadError" = some (.ref t.C_RoadError)
  X_RoadError : XCls K t.C_RoadError
  R_RoadError : PySem.W.excIn K t.C_RoadError [.type "ValueError", .type "Exception", .type "BaseException", .type "object"] "ValueError.__new__" = true
  k_RoadError_RoadError : PySem.W.kitOne K (.ref t.C_RoadError) (.ref t.C_RoadError) = some true
  k_RoadError_BadTree : PySem.W.kitCls K (.ref t.C_RoadError) (.ref t.C_BadTree) = some false
  o_RoadError_BadTree : PySem.W.kitOne K (.ref t.C_RoadError) (.ref t.C_BadTree) = some false
  k_RoadError_NoVillage : PySem.W.kitCls K (.ref t.C_RoadError) (.ref t.C_NoVillage) = some false
  o_RoadError_NoVillage : PySem.W.kitOne K (.ref t.C_RoadError) (.ref t.C_NoVillage) = some false
  k_RoadError_NoRoad : PySem.W.kitCls K (.ref t.C_RoadError) (.ref t.C_NoRoad) = some false
  o_RoadError_NoRoad : PySem.W.kitOne K (.ref t.C_RoadError) (.ref t.C_NoRoad) = some false
  k_RoadError_BadNumber : PySem.W.kitCls K (.ref t.C_RoadError) (.ref t.C_BadNumber) = some false
  o_RoadError_BadNumber : PySem.W.kitOne K (.ref t.C_RoadError) (.ref t.C_BadNumber) = some false
  k_RoadError_BadRow : PySem.W.kitCls K (.ref t.C_RoadError) (.ref t.C_BadRow) = some false
  o_RoadError_BadRow : PySem.W.kitOne K (.ref t.C_RoadError) (.ref t.C_BadRow) = some false
  v_RoadError : PySem.W.kitOne K (.ref t.C_RoadError) (.type "ValueError") = some true
  m_BadTree : mg "BadTree" = some (.ref t.C_BadTree)
  X_BadTree : XCls K t.C_BadTree
  R_BadTree : PySem.W.excIn K t.C_BadTree [.type "ValueError", .type "Exception", .type "BaseException", .type "object"] "ValueError.__new__" = true
  k_BadTree_RoadError : PySem.W.kitCls K (.ref t.C_BadTree) (.ref t.C_RoadError) = some true
  o_BadTree_RoadError : PySem.W.kitOne K (.ref t.C_BadTree) (.ref t.C_RoadError) = some true
  k_BadTree_BadTree : PySem.W.kitOne K (.ref t.C_BadTree) (.ref t.C_BadTree) = some true
  k_BadTree_NoVillage : PySem.W.kitCls K (.ref t.C_BadTree) (.ref t.C_NoVillage) = some false
  o_BadTree_NoVillage : PySem.W.kitOne K (.ref t.C_BadTree) (.ref t.C_NoVillage) = some false
  k_BadTree_NoRoad : PySem.W.kitCls K (.ref t.C_BadTree) (.ref t.C_NoRoad) = some false
  o_BadTree_NoRoad : PySem.W.kitOne K (.ref t.C_BadTree) (.ref t.C_NoRoad) = some false
  k_BadTree_BadNumber : PySem.W.kitCls K (.ref t.C_BadTree) (.ref t.C_BadNumber) = some false
  o_BadTree_BadNumber : PySem.W.kitOne K (.ref t.C_BadTree) (.ref t.C_BadNumber) = some false
  k_BadTree_BadRow : PySem.W.kitCls K (.ref t.C_BadTree) (.ref t.C_BadRow) = some false
  o_BadTree_BadRow : PySem.W.kitOne K (.ref t.C_BadTree) (.ref t.C_BadRow) = some false
  v_BadTree : PySem.W.kitOne K (.ref t.C_BadTree) (.type "ValueError") = some true
  m_NoVillage : mg "NoVillage" = some (.ref t.C_NoVillage)
  X_NoVillage : XCls K t.C_NoVillage
  R_NoVillage : PySem.W.excIn K t.C_NoVillage [.type "ValueError", .type "Exception", .type "BaseException", .type "object"] "ValueError.__new__" = true
  k_NoVillage_RoadError : PySem.W.kitCls K (.ref t.C_NoVillage) (.ref t.C_RoadError) = some true
  o_NoVillage_RoadError : PySem.W.kitOne K (.ref t.C_NoVillage) (.ref t.C_RoadError) = some true
  k_NoVillage_BadTree : PySem.W.kitCls K (.ref t.C_NoVillage) (.ref t.C_BadTree) = some false
  o_NoVillage_BadTree : PySem.W.kitOne K (.ref t.C_NoVillage) (.ref t.C_BadTree) = some false
  k_NoVillage_NoVillage : PySem.W.kitOne K (.ref t.C_NoVillage) (.ref t.C_NoVillage) = some true
  k_NoVillage_NoRoad : PySem.W.kitCls K (.ref t.C_NoVillage) (.ref t.C_NoRoad) = some false
  o_NoVillage_NoRoad : PySem.W.kitOne K (.ref t.C_NoVillage) (.ref t.C_NoRoad) = some false
  k_NoVillage_BadNumber : PySem.W.kitCls K (.ref t.C_NoVillage) (.ref t.C_BadNumber) = some false
  o_NoVillage_BadNumber : PySem.W.kitOne K (.ref t.C_NoVillage) (.ref t.C_BadNumber) = some false
  k_NoVillage_BadRow : PySem.W.kitCls K (.ref t.C_NoVillage) (.ref t.C_BadRow) = some false
  o_NoVillage_BadRow : PySem.W.kitOne K (.ref t.C_NoVillage) (.ref t.C_BadRow) = some false
  v_NoVillage : PySem.W.kitOne K (.ref t.C_NoVillage) (.type "ValueError") = some true
  m_NoRoad : mg "NoRoad" = some (.ref t.C_NoRoad)
  X_NoRoad : XCls K t.C_NoRoad
  R_NoRoad : PySem.W.excIn K t.C_NoRoad [.type "ValueError", .type "Exception", .type "BaseException", .type "object"] "ValueError.__new__" = true
  k_NoRoad_RoadError : PySem.W.kitCls K (.ref t.C_NoRoad) (.ref t.C_RoadError) = some true
  o_NoRoad_RoadError : PySem.W.kitOne K (.ref t.C_NoRoad) (.ref t.C_RoadError) = some true
  k_NoRoad_BadTree : PySem.W.kitCls K (.ref t.C_NoRoad) (.ref t.C_BadTree) = some false
  o_NoRoad_BadTree : PySem.W.kitOne K (.ref t.C_NoRoad) (.ref t.C_BadTree) = some false
  k_NoRoad_NoVillage : PySem.W.kitCls K (.ref t.C_NoRoad) (.ref t.C_NoVillage) = some false
  o_NoRoad_NoVillage : PySem.W.kitOne K (.ref t.C_NoRoad) (.ref t.C_NoVillage) = some false
  k_NoRoad_NoRoad : PySem.W.kitOne K (.ref t.C_NoRoad) (.ref t.C_NoRoad) = some true
  k_NoRoad_BadNumber : PySem.W.kitCls K (.ref t.C_NoRoad) (.ref t.C_BadNumber) = some false
  o_NoRoad_BadNumber : PySem.W.kitOne K (.ref t.C_NoRoad) (.ref t.C_BadNumber) = some false
  k_NoRoad_BadRow : PySem.W.kitCls K (.ref t.C_NoRoad) (.ref t.C_BadRow) = some false
  o_NoRoad_BadRow : PySem.W.kitOne K (.ref t.C_NoRoad) (.ref t.C_BadRow) = some false
  v_NoRoad : PySem.W.kitOne K (.ref t.C_NoRoad) (.type "ValueError") = some true
  m_BadNumber : mg "BadNumber" = some (.ref t.C_BadNumber)
  X_BadNumber : XCls K t.C_BadNumber
  R_BadNumber : PySem.W.excIn K t.C_BadNumber [.type "ValueError", .type "Exception", .type "BaseException", .type "object"] "ValueError.__new__" = true
  k_BadNumber_RoadError : PySem.W.kitCls K (.ref t.C_BadNumber) (.ref t.C_RoadError) = some true
  o_BadNumber_RoadError : PySem.W.kitOne K (.ref t.C_BadNumber) (.ref t.C_RoadError) = some true
  k_BadNumber_BadTree : PySem.W.kitCls K (.ref t.C_BadNumber) (.ref t.C_BadTree) = some false
  o_BadNumber_BadTree : PySem.W.kitOne K (.ref t.C_BadNumber) (.ref t.C_BadTree) = some false
  k_BadNumber_NoVillage : PySem.W.kitCls K (.ref t.C_BadNumber) (.ref t.C_NoVillage) = some false
  o_BadNumber_NoVillage : PySem.W.kitOne K (.ref t.C_BadNumber) (.ref t.C_NoVillage) = some false
  k_BadNumber_NoRoad : PySem.W.kitCls K (.ref t.C_BadNumber) (.ref t.C_NoRoad) = some false
  o_BadNumber_NoRoad : PySem.W.kitOne K (.ref t.C_BadNumber) (.ref t.C_NoRoad) = some false
  k_BadNumber_BadNumber : PySem.W.kitOne K (.ref t.C_BadNumber) (.ref t.C_BadNumber) = some true
  k_BadNumber_BadRow : PySem.W.kitCls K (.ref t.C_BadNumber) (.ref t.C_BadRow) = some false
  o_BadNumber_BadRow : PySem.W.kitOne K (.ref t.C_BadNumber) (.ref t.C_BadRow) = some false
  v_BadNumber : PySem.W.kitOne K (.ref t.C_BadNumber) (.type "ValueError") = some true
  m_BadRow : mg "BadRow" = some (.ref t.C_BadRow)
  X_BadRow : XCls K t.C_BadRow
  XM_BadRow : XMk K t.C_BadRow t.f_BadRow_init
  XS_BadRow_row : XSto K t.C_BadRow "row"
  XG_BadRow_row : XGet K t.C_BadRow "row"
  k_BadRow_RoadError : PySem.W.kitCls K (.ref t.C_BadRow) (.ref t.C_RoadError) = some true
  o_BadRow_RoadError : PySem.W.kitOne K (.ref t.C_BadRow) (.ref t.C_RoadError) = some true
  k_BadRow_BadTree : PySem.W.kitCls K (.ref t.C_BadRow) (.ref t.C_BadTree) = some false
  o_BadRow_BadTree : PySem.W.kitOne K (.ref t.C_BadRow) (.ref t.C_BadTree) = some false
  k_BadRow_NoVillage : PySem.W.kitCls K (.ref t.C_BadRow) (.ref t.C_NoVillage) = some false
  o_BadRow_NoVillage : PySem.W.kitOne K (.ref t.C_BadRow) (.ref t.C_NoVillage) = some false
  k_BadRow_NoRoad : PySem.W.kitCls K (.ref t.C_BadRow) (.ref t.C_NoRoad) = some false
  o_BadRow_NoRoad : PySem.W.kitOne K (.ref t.C_BadRow) (.ref t.C_NoRoad) = some false
  k_BadRow_BadNumber : PySem.W.kitCls K (.ref t.C_BadRow) (.ref t.C_BadNumber) = some false
  o_BadRow_BadNumber : PySem.W.kitOne K (.ref t.C_BadRow) (.ref t.C_BadNumber) = some false
  k_BadRow_BadRow : PySem.W.kitOne K (.ref t.C_BadRow) (.ref t.C_BadRow) = some true
  v_BadRow : PySem.W.kitOne K (.ref t.C_BadRow) (.type "ValueError") = some true
theorem sc_BadRow_init : FnScope ["self", "row"] ["self", "row"] (defScope s_BadRow_init) := ⟨rfl, rfl, rfl, by decide +kernel, rfl, by decide +kernel, by decide +kernel⟩
theorem sc_is_number : FnScope ["value"] ["value"] (defScope s_is_number) := ⟨rfl, rfl, rfl, by decide +kernel, rfl, by decide +kernel, by decide +kernel⟩
theorem sc_is_whole : FnScope ["value", "least", "most"] ["value", "least", "most"] (defScope s_is_whole) := ⟨rfl, rfl, rfl, by decide +kernel, rfl, by decide +kernel, by decide +kernel⟩
theorem sc_is_road : FnScope ["road", "villages", "end"] ["road", "villages"] (defScope s_is_road) := ⟨rfl, rfl, rfl, by decide +kernel, rfl, by decide +kernel, by decide +kernel⟩
theorem sc_is_tree : FnScope ["villages", "roads"] ["villages", "roads"] (defScope s_is_tree) := ⟨rfl, rfl, rfl, by decide +kernel, rfl, by decide +kernel, by decide +kernel⟩
theorem sc_steps : FnScope ["roads", "village", "ends", "first", "second", "length"] ["roads", "village"] (defScope s_steps) := ⟨rfl, rfl, rfl, by decide +kernel, rfl, by decide +kernel, by decide +kernel⟩
theorem sc_reached : FnScope ["roads", "start", "found", "waiting", "here", "there", "length"] ["roads", "start"] (defScope s_reached) := ⟨rfl, rfl, rfl, by decide +kernel, rfl, by decide +kernel, by decide +kernel⟩
theorem sc_Tree_init : FnScope ["self", "villages", "roads"] ["self", "villages", "roads"] (defScope s_Tree_init) := ⟨rfl, rfl, rfl, by decide +kernel, rfl, by decide +kernel, by decide +kernel⟩
theorem sc_number_of : FnScope ["text"] ["text"] (defScope s_number_of) := ⟨rfl, rfl, rfl, by decide +kernel, rfl, by decide +kernel, by decide +kernel⟩
theorem sc_villages_of : FnScope ["row", "parts"] ["row"] (defScope s_villages_of) := ⟨rfl, rfl, rfl, by decide +kernel, rfl, by decide +kernel, by decide +kernel⟩
theorem sc_road_of : FnScope ["row", "parts", "ends", "numbers"] ["row"] (defScope s_road_of) := ⟨rfl, rfl, rfl, by decide +kernel, rfl, by decide +kernel, by decide +kernel⟩
theorem sc_read : FnScope ["text", "rows", "villages", "roads"] ["text"] (defScope s_read) := ⟨rfl, rfl, rfl, by decide +kernel, rfl, by decide +kernel, by decide +kernel⟩
theorem sc__law_cell_at : FnScope ["_law_script", "_law_k"] ["_law_script", "_law_k"] (defScope s__law_cell_at) := ⟨rfl, rfl, rfl, by decide +kernel, rfl, by decide +kernel, by decide +kernel⟩
theorem sc__law_draw : FnScope ["_law_cell", "_law_k", "_law_many", "_law_primes", "_law_blend"] ["_law_cell", "_law_k", "_law_many"] (defScope s__law_draw) := ⟨rfl, rfl, rfl, by decide +kernel, rfl, by decide +kernel, by decide +kernel⟩
theorem sc__law_refused : FnScope ["_law_text", "error", "_law_others"] ["_law_text"] (defScope s__law_refused) := ⟨rfl, rfl, rfl, by decide +kernel, rfl, by decide +kernel, by decide +kernel⟩
theorem sc__law_bad_road : FnScope ["_law_which", "_law_rows"] ["_law_which"] (defScope s__law_bad_road) := ⟨rfl, rfl, rfl, by decide +kernel, rfl, by decide +kernel, by decide +kernel⟩
theorem sc__law_bad_head : FnScope ["_law_which", "_law_rows"] ["_law_which"] (defScope s__law_bad_head) := ⟨rfl, rfl, rfl, by decide +kernel, rfl, by decide +kernel, by decide +kernel⟩
theorem sc__law_whole : FnScope ["_law_more", "_law_texts", "_law_text"] ["_law_more"] (defScope s__law_whole) := ⟨rfl, rfl, rfl, by decide +kernel, rfl, by decide +kernel, by decide +kernel⟩
theorem sc_law : FnScope ["_law_script", "_law_villages", "_law_good", "_law_k", "_law_cell", "_law_place", "_law_odd", "_law_bad"] ["_law_script"] (defScope s_law) := ⟨rfl, rfl, rfl, by decide +kernel, rfl, by decide +kernel, by decide +kernel⟩
end WR
namespace WR
open PySem L2
theorem ite_f {c : Bool} {A B : Prop} (e : c = false) (h : B) : if c = true then A else B := by rw [e]; exact iteF h
theorem ite_t {c : Bool} {A B : Prop} (e : c = true) (h : A) : if c = true then A else B := by rw [e]; exact iteT h
/-! ### what isinstance says -/
section
variable {K : PySem.W.Frag}
theorem kit_ii : PySem.W.kitOne K (.type "int") (.type "int") = some true := by rfl
theorem kit_ib : PySem.W.kitOne K (.type "int") (.type "bool") = some false := by rfl
theorem kit_bi : PySem.W.kitOne K (.type "bool") (.type "int") = some true := by rfl
theorem kit_bb : PySem.W.kitOne K (.type "bool") (.type "bool") = some true := by rfl
theorem kit_si : PySem.W.kitOne K (.type "str") (.type "int") = some false := by rfl
theorem kit_ni : PySem.W.kitOne K (.type "NoneType") (.type "int") = some false := by rfl
theorem kit_li : PySem.W.kitOne K (.type "list") (.type "int") = some false := by rfl
theorem kit_ti : PySem.W.kitOne K (.type "tuple") (.type "int") = some false := by rfl
theorem kit_ll : PySem.W.kitOne K (.type "list") (.type "list") = some true := by rfl
theorem kit_tt : PySem.W.kitOne K (.type "tuple") (.type "tuple") = some true := by rfl
end
/-- a whole number between two -/
def wholeV (x : V) (a b : Int) : Bool := match x with
  | .int i => decide (a ≤ i) && decide (i ≤ b)
  | _ => false
/-- kinds of values that are handed in -/
inductive KindV (H : Hp) : V → Prop where
  | int (i : Int) : KindV H (.int i)
  | bl (b : Bool) : KindV H (.bl b)
  | str (x : Str) : KindV H (.str x)
  | non : KindV H .non
  | lst {a : Addr} {xs : List V} (h : H a = some (.lst xs)) : KindV H (.ref a)
  | tup {a : Addr} {xs : List V} (h : H a = some (.tup xs)) : KindV H (.ref a)
/-- a whole number, no truth -/
def numV (x : V) : Bool := match x with
  | .int _ => true
  | _ => false
def sp_is_number : Sp := fun vs H Q _ => ∃ (x : V), vs = [x] ∧ KindV H x ∧ Q (.bl (numV x)) H
def sp_is_whole : Sp := fun vs H Q _ => ∃ (x : V) (a b : Int), vs = [x, .int a, .int b] ∧ KindV H x ∧ Q (.bl (wholeV x a b)) H
section
variable {P : Program} {w : World} {K : PySem.W.Frag} {mg : Str → Option Value} {base : Heap} {t : Adr}
theorem ok_is_number (TT : Txt K mg t) : FnOk P w K mg base CX0 1 t.f_is_number t.d_is_number ["value"] sp_is_number := by
  refine TT.F_is_number.ok sc_is_number (fun vs H Q E h => ?_) (fun cdv A outer s H vs Q E hr h => ?_)
  · obtain ⟨x, rfl, _⟩ := h
    rfl
  · obtain ⟨x, rfl, hk, q⟩ := h
    refine ⟨_, (pss_one (ps_ret (pe_and (pe_callB call_isinst rfl TT.z_isinstance WB.bt_isinstance (pa_cons (pv 0) (pa_cons (pe_bltn (v := .ty "int") rfl TT.z_int WB.bt_int rfl) pa_nil))) (pe_one (pe_not (pe_callB call_isinst rfl TT.z_isinstance WB.bt_isinstance (pa_cons (pv 0) (pa_cons (pe_bltn (v := .ty "bool") rfl TT.z_bool WB.bt_bool rfl) pa_nil)))))))), ?_⟩
    cases hk with
    | int i => exact ⟨_, rfl, _, "int", .type "int", true, rfl, .int _, kit_ii, true, rfl, iteT ⟨_, rfl, _, "bool", .type "int", false, rfl, .int _, kit_ib, false, rfl, q⟩⟩
    | bl b' => exact ⟨_, rfl, _, "int", .type "bool", true, rfl, .bl _, kit_bi, true, rfl, iteT ⟨_, rfl, _, "bool", .type "bool", true, rfl, .bl _, kit_bb, true, rfl, q⟩⟩
    | str y => exact ⟨_, rfl, _, "int", .type "str", false, rfl, .str _, kit_si, false, rfl, iteF q⟩
    | non => exact ⟨_, rfl, _, "int", .type "NoneType", false, rfl, .non, kit_ni, false, rfl, iteF q⟩
    | lst h => exact ⟨_, rfl, _, "int", .type "list", false, rfl, .lst h, kit_li, false, rfl, iteF q⟩
    | tup h => exact ⟨_, rfl, _, "int", .type "tuple", false, rfl, .tup h, kit_ti, false, rfl, iteF q⟩
theorem ok_is_whole (TT : Txt K mg t) : FnOk P w K mg base CX0 2 t.f_is_whole t.d_is_whole ["value", "least", "most"] sp_is_whole := by
  refine TT.F_is_whole.ok sc_is_whole (fun vs H Q E h => ?_) (fun cdv A outer s H vs Q E hr h => ?_)
  · obtain ⟨x, a, b, rfl, _⟩ := h
    rfl
  · obtain ⟨x, a, b, rfl, hk, q⟩ := h
    refine ⟨_, (pss_one (ps_ret (pe_and (pe_call (ok_is_number TT) (hr.mono (by decide)) rfl TT.m_is_number TT.F_is_number.kp TT.b_is_number .nil pass0 (pa_cons (pv 0) pa_nil)) (pe_one (pe_chain op_le op_le (pv 1) (pv 0) (pv 2)))))), ?_⟩
    refine ⟨_, rfl, x, rfl, hk, _, rfl, ?_⟩
    cases hk with
    | int i =>
      refine iteT ⟨_, rfl, _, rfl, _, _, rfl, rfl, _, rfl, ite2 (fun h1 => ?_) (fun h1 => ?_)⟩
      · refine ⟨_, rfl, _, _, rfl, rfl, ?_⟩
        have e : wholeV (.int i) a b = decide (i ≤ b) := by show (decide (a ≤ i) && decide (i ≤ b)) = _; rw [h1]; rfl
        rw [e] at q; exact q
      · have e : wholeV (.int i) a b = false := by
          show (decide (a ≤ i) && decide (i ≤ b)) = _
          have : decide (a ≤ i) = false := by simpa using h1
          rw [this]; rfl
        rw [e] at q; exact q
    | bl b' => exact iteF q
    | str y => exact iteF q
    | non => exact iteF q
    | lst h => exact iteF q
    | tup h => exact iteF q
end
end WR
namespace WR
open PySem L2
theorem nocut2 (x y z : V) : ¬ (HT.sIx [x, y, z].length 0 none = 0 ∧ HT.sIx [x, y, z].length [x, y, z].length (some 2) = [x, y, z].length) := fun h => absurd h.2 (by show ¬ (2 = 3); decide)
def roadB (n : Int) (r : Road) : Bool := wholeV (.int r.1) 0 (n - 1) && wholeV (.int r.2.1) 0 (n - 1) && !decide (r.1 = r.2.1) && wholeV (.int r.2.2) 1 1000000
def sp_is_road : Sp := fun vs H Q _ => ∃ (p : Addr) (n : Int) (r : Road), vs = [.ref p, .int n] ∧ H p = some (.tup [.int r.1, .int r.2.1, .int r.2.2]) ∧ ∀ H', Same H H' → Q (.bl (roadB n r)) H'
section
variable {P : Program} {w : World} {K : PySem.W.Frag} {mg : Str → Option Value} {base : Heap} {t : Adr}
theorem ok_is_road (TT : Txt K mg t) : FnOk P w K mg base CX0 3 t.f_is_road t.d_is_road ["road", "villages"] sp_is_road := by
  refine TT.F_is_road.ok sc_is_road (fun vs H Q E h => ?_) (fun cdv A outer s H vs Q E hr h => ?_)
  · obtain ⟨p, n, r, rfl, _⟩ := h
    rfl
  · obtain ⟨p, n, ⟨a, b, l⟩, rfl, hp, k⟩ := h
    simp only at hp
    refine ⟨_, (pss_cons (ps_if (PW.pt (pw_or (pt_not (pt_val (pe_callB call_isinst rfl TT.z_isinstance WB.bt_isinstance (pa_cons (pv 0) (pa_cons (pe_bltn (v := .ty "tuple") rfl TT.z_tuple WB.bt_tuple rfl) pa_nil))))) (pw_or1 (pt_cmpR op_ne (pe_callB call_len_seq rfl TT.z_len WB.bt_len (pa_cons (pv 0) pa_nil)) pe_int (nomark _))))) (pss_one (ps_ret pe_bl)) pss_nil) (pss_cons (ps_for PassesOwn.never rfl (pi_tup (pe_slice sl_tup (pv 0) po_none (po_some pe_int))) (pg_name (i := 2) sc_is_road.nd rfl (Or.inl rfl)) (pss_one (ps_if (pt_not (pt_val (pe_call (ok_is_whole TT) (hr.mono (by decide)) rfl TT.m_is_whole TT.F_is_whole.kp TT.b_is_whole .nil pass0 (pa_cons (pv 2) (pa_consC pe_int (pa_consB (pe_op op_sub (pv 1) pe_int) pa_nil)))))) (pss_one (ps_ret pe_bl)) pss_nil))) (pss_one (ps_ret (pe_and (pe_cmpR op_ne (pe_ix ix_tup (pv 0) pe_int (fun _ _ => rfl)) (pe_ix ix_tup (pv 0) pe_int (fun _ _ => rfl)) (nomark _)) (pe_one (pe_call (ok_is_whole TT) (hr.mono (by decide)) rfl TT.m_is_whole TT.F_is_whole.kp TT.b_is_whole .nil pass0 (pa_cons (pe_ix ix_tup (pv 0) pe_int (fun _ _ => rfl)) (pa_consC pe_int (pa_cons (pe_glob (v := .int 1000000) rfl TT.g_MOST_LENGTH ⟨_, rfl⟩) pa_nil)))))))))), ?_⟩
    -- if not isinstance(road, tuple) or len(road) != 3
    refine ⟨_, rfl, _, "tuple", .type "tuple", true, rfl, .tup hp, kit_tt, true, rfl, iteF ?_⟩
    refine ⟨_, rfl, p, _, rfl, .inr (SqT.of hp), rfl, _, rfl, iteF ?_⟩
    -- for end in road[:2]
    refine ⟨_, rfl, 2, rfl, p, _, rfl, SqT.of hp, nocut2 _ _ _, fun q hq => ?_⟩
    have s1 : Same H (upd H q (.tup [.int a, .int b])) := same_new hq
    refine ⟨q, rfl, ⟨_, SqT.of upd_same⟩, for_tup (K := K) (a := q) (xs := [.int a, .int b]) (fun i σ H2 => (∃ v, σ = [some (.ref p), some (.int n), v]) ∧ H2 = upd H q (.tup [.int a, .int b]) ∧ (0 < i → wholeV (.int a) 0 (n - 1) = true) ∧ (1 < i → wholeV (.int b) 0 (n - 1) = true))
      ⟨⟨none, rfl⟩, rfl, fun h => absurd h (by decide), fun h => absurd h (by decide)⟩ (fun i σ H2 _ ⟨_, e, _⟩ => by rw [e]; exact SqT.of upd_same) ?_ ?_⟩
    · rintro i x σ H2 hi ⟨⟨v, rfl⟩, rfl, w1, w2⟩
      have cases2 : (i = 0 ∧ x = .int a) ∨ (i = 1 ∧ x = .int b) := by
        match i, hi with
        | 0, hi => exact .inl ⟨rfl, (Option.some.inj hi).symm⟩
        | 1, hi => exact .inr ⟨rfl, (Option.some.inj hi).symm⟩
      rcases cases2 with ⟨rfl, rfl⟩ | ⟨rfl, rfl⟩
      · refine ⟨_, rfl, _, rfl, _, _, rfl, rfl, _, _, _, rfl, .int _, _, rfl, ?_⟩
        cases e : wholeV (.int a) 0 (n - 1) with
        | true => exact iteF ⟨⟨_, rfl⟩, rfl, fun _ => rfl, fun h => absurd h (by decide)⟩
        | false =>
          refine iteT ?_
          have : roadB n (a, b, l) = false := by show (wholeV (.int a) 0 (n - 1) && _ && _ && _) = false; rw [e]; rfl
          rw [this] at k
          exact k _ s1
      · refine ⟨_, rfl, _, rfl, _, _, rfl, rfl, _, _, _, rfl, .int _, _, rfl, ?_⟩
        cases e : wholeV (.int b) 0 (n - 1) with
        | true => exact iteF ⟨⟨_, rfl⟩, rfl, fun _ => w1 (by decide), fun _ => rfl⟩
        | false =>
          refine iteT ?_
          have : roadB n (a, b, l) = false := by show (wholeV (.int a) 0 (n - 1) && wholeV (.int b) 0 (n - 1) && _ && _) = false; rw [e, Bool.and_false]; rfl
          rw [this] at k
          exact k _ s1
    · rintro σ H2 ⟨⟨v, rfl⟩, rfl, w1, w2⟩
      have hp2 := s1 _ _ hp
      have e1 := w1 (by show 0 < 2; decide)
      have e2 := w2 (by show 1 < 2; decide)
      -- return road[0] != road[1] and is_whole(road[2], 1, MOST_LENGTH)
      refine ⟨_, rfl, p, _, 0, _, rfl, rfl, SqT.of hp2, atI_nat (j := 0) rfl, _, rfl, p, _, 1, _, rfl, rfl, SqT.of hp2, atI_nat (j := 1) rfl, rfl, _, rfl, ?_⟩
      by_cases ab : a = b
      · have hf : (!decide (V.int a = V.int b)) = false := by rw [ab]; simp
        rw [hf]
        refine iteF ?_
        have : roadB n (a, b, l) = false := by show (wholeV (.int a) 0 (n - 1) && wholeV (.int b) 0 (n - 1) && !decide (a = b) && _) = false; rw [ab]; simp
        rw [this] at k
        exact k _ s1
      · have hf : (!decide (V.int a = V.int b)) = true := by simpa using ab
        rw [hf]
        refine iteT ?_
        refine ⟨_, rfl, p, _, 2, _, rfl, rfl, SqT.of hp2, atI_nat (j := 2) rfl, _, _, _, rfl, .int _, ?_⟩
        have : roadB n (a, b, l) = wholeV (.int l) 1 1000000 := by show (wholeV (.int a) 0 (n - 1) && wholeV (.int b) 0 (n - 1) && !decide (a = b) && _) = _; rw [e1, e2]; simp [ab]
        rw [this] at k
        exact k _ s1
end
end WR
namespace WR
open PySem L2
def sp_steps : Sp := fun vs H Q _ => ∃ (p : Addr) (rs : List Road) (v : Int), vs = [.ref p, .int v] ∧ RoadsAt H p rs ∧ rs.length ≤ 1000 ∧ ∀ q H', H q = none → Same H H' → PairsAt H' q (stepsM rs v) → Q (.ref q) H'
theorem PairsAt.snoc {H : Hp} {q a : Addr} {ps : List (Int × Int)} {xs : List V} {y l : Int} (hq : H q = some (.lst xs)) (hr : Reps H xs (ps.map pairD)) (ha : H a = none) (hH : H' = upd (upd H a (.tup [.int y, .int l])) q (.lst (xs ++ [.ref a]))) : PairsAt H' q (ps ++ [(y, l)]) := by
  subst hH
  have hne : q ≠ a := ne_of_none hq ha
  have k1 : Same H (upd H a (.tup [.int y, .int l])) := same_new ha
  have k2 : ∀ b ys, (upd H a (.tup [.int y, .int l])) b = some (.tup ys) → (upd (upd H a (.tup [.int y, .int l])) q (.lst (xs ++ [.ref a]))) b = some (.tup ys) := fun b ys e => by
    rw [upd_ne]
    · exact e
    · intro z; subst z; rw [k1 _ _ hq] at e; cases e
  refine ⟨_, upd_same, ?_⟩
  rw [List.map_append]
  refine Reps.append (Reps.froz (H := upd H a (.tup [.int y, .int l])) k2 ?_ (hr.keep k1)) (.cons (pairD_mk (k2 _ _ upd_same)) .nil)
  clear hr
  induction ps with
  | nil => unfold List.map Frozs; trivial
  | cons p t ih => rw [List.map_cons]; unfold Frozs; exact ⟨by unfold pairD Froz Frozs Frozs Frozs Froz; simp, ih⟩
section
variable {P : Program} {w : World} {K : PySem.W.Frag} {mg : Str → Option Value} {base : Heap} {t : Adr}
theorem ok_steps (TT : Txt K mg t) : FnOk P w K mg base CX0 1 t.f_steps t.d_steps ["roads", "village"] sp_steps := by
  refine TT.F_steps.ok sc_steps (fun vs H Q E h => ?_) (fun cdv A outer s H vs Q E hr h => ?_)
  · obtain ⟨p, rs, v, rfl, _⟩ := h
    rfl
  · obtain ⟨p, rs, v, rfl, ⟨xs, hp, hxs⟩, hlen, k⟩ := h
    refine ⟨_, (pss_cons (ps_set (i := 2) sc_steps.nd rfl (Or.inl rfl) (pe_lst pa_nil)) (pss_cons (ps_for PassesOwn.never rfl (pi_list (pv 0)) (pg_tup rfl (pgs_cons (pg_name (i := 3) sc_steps.nd rfl (Or.inl rfl)) (pgs_cons (pg_name (i := 4) sc_steps.nd rfl (Or.inl rfl)) (pgs_cons (pg_name (i := 5) sc_steps.nd rfl (Or.inl rfl)) pgs_nil)))) (pss_cons (ps_if (pt_cmpR op_eq (pv 3) (pv 1) (nomark _)) (pss_one (ps_expr (pe_bm PySem.F.plainAttrs_list PySem.F.slot_list_append PySem.F.type_list_append mt_append (pv 2) (pa_cons (pe_tup (pa_cons (pv 4) (pa_cons (pv 5) pa_nil))) pa_nil)))) pss_nil) (pss_one (ps_if (pt_cmpR op_eq (pv 4) (pv 1) (nomark _)) (pss_one (ps_expr (pe_bm PySem.F.plainAttrs_list PySem.F.slot_list_append PySem.F.type_list_append mt_append (pv 2) (pa_cons (pe_tup (pa_cons (pv 3) (pa_cons (pv 5) pa_nil))) pa_nil)))) pss_nil)))) (pss_one (ps_ret (pv 2))))), ?_⟩
    -- ends = []
    refine ⟨Nat.zero_le _, fun q hq => ?_⟩
    have hlx := hxs.length
    rw [List.length_map] at hlx
    -- for first, second, length in roads
    refine ⟨_, rfl, p, rfl, ⟨_, SqL.of (same_new hq _ _ hp)⟩, for_list (K := K) (a := p) (xs := xs) (fun i σ H2 => (∃ v1 v2 v3, σ = [some (.ref p), some (.int v), some (.ref q), v1, v2, v3]) ∧ Same H H2 ∧ PairsAt H2 q (stepsM (rs.take i) v) ∧ i ≤ rs.length)
      ⟨⟨none, none, none, rfl⟩, same_new hq, ⟨[], upd_same, .nil⟩, Nat.zero_le _⟩ (fun i σ H2 _ ⟨_, e, _⟩ => SqL.of (e _ _ hp)) ?_ ?_⟩
    · rintro i x σ H2 hi ⟨⟨v1, v2, v3, rfl⟩, s2, hE, hil⟩
      obtain ⟨⟨ra, rb, rl⟩, a, hri, rfl, ha⟩ := RoadsAt.get hp hxs hi
      have ha2 := s2 _ _ ha
      have hlt : i < rs.length := (List.getElem?_eq_some_iff.mp hri).1
      refine ⟨a, _, rfl, SqT.of ha2, rfl, _, _, rfl, _, _, rfl, _, _, rfl, rfl, ?_⟩
      -- if first == village: ends.append((second, length))
      have step : ∀ {H3 : Hp} {ps : List (Int × Int)} {y l : Int}, Same H H3 → PairsAt H3 q ps → ps.length ≤ 2000 → ∀ (N : Hp → Prop), (∀ H4, Same H H4 → PairsAt H4 q (ps ++ [(y, l)]) → N H4) →
          (∀ c : Addr, H3 c = none → ∃ l' xs y', V.ref q = .ref l' ∧ [V.ref c] = [y'] ∧ (upd H3 c (.tup [.int y, .int l])) l' = some (.lst xs) ∧ xs.length < sizeLine ∧ N (upd (upd H3 c (.tup [.int y, .int l])) l' (.lst (xs ++ [y'])))) := by
        intro H3 ps y l s3 ⟨ys, hq3, hys⟩ hl3 N hN c hc
        have e1 := hys.length
        rw [List.length_map] at e1
        refine ⟨q, ys, .ref c, rfl, rfl, same_new hc _ _ hq3, by rw [e1, sizeLine_eq]; omega, hN _ (fun b o e => ?_) (PairsAt.snoc hq3 hys hc rfl)⟩
        have hbq : b ≠ q := ne_of_none e hq
        rw [upd_ne hbq]
        exact same_new hc _ _ (s3 _ _ e)
      have hb1 := stepsM_length (rs.take i) v
      rw [List.length_take] at hb1
      have e2 := stepsM_take (v := v) hri
      refine ⟨_, rfl, _, rfl, rfl, _, rfl, ite2 (fun c1 => ?_) (fun c1 => ?_)⟩
      · have c1 : ra = v := by simpa using c1
        obtain ⟨ys, hq2, hys⟩ := hE
        refine ⟨_, rfl, .inl ⟨rfl, _, SqL.of hq2⟩, _, rfl, _, rfl, by show 2 ≤ sizeLine; decide, step s2 ⟨ys, hq2, hys⟩ (by omega) _ fun H4 s4 hE4 => ?_⟩
        -- if second == village: ends.append((first, length))
        refine ⟨_, rfl, _, rfl, rfl, _, rfl, ite2 (fun c2 => ?_) (fun c2 => ?_)⟩
        · have c2 : rb = v := by simpa using c2
          obtain ⟨zs, hq4, hzs⟩ := hE4
          refine ⟨_, rfl, .inl ⟨rfl, _, SqL.of hq4⟩, _, rfl, _, rfl, by show 2 ≤ sizeLine; decide, step s4 ⟨zs, hq4, hzs⟩ (by rw [List.length_append]; simp only [List.length_cons, List.length_nil]; omega) _ fun H5 s5 hE5 => ?_⟩
          refine ⟨⟨_, _, _, rfl⟩, s5, ?_, hlt⟩
          rw [e2]
          simp only [stepsOf, c1, c2, if_true]
          rw [← List.append_assoc]
          simpa [c1, c2] using hE5
        · have c2 : ¬ rb = v := by simpa using c2
          refine ⟨⟨_, _, _, rfl⟩, s4, ?_, hlt⟩
          rw [e2]
          simp only [stepsOf, c1, c2, if_true, if_false, List.append_nil]
          exact hE4
      · have c1 : ¬ ra = v := by simpa using c1
        refine ⟨_, rfl, _, rfl, rfl, _, rfl, ite2 (fun c2 => ?_) (fun c2 => ?_)⟩
        · have c2 : rb = v := by simpa using c2
          obtain ⟨zs, hq4, hzs⟩ := hE
          refine ⟨_, rfl, .inl ⟨rfl, _, SqL.of hq4⟩, _, rfl, _, rfl, by show 2 ≤ sizeLine; decide, step s2 ⟨zs, hq4, hzs⟩ (by omega) _ fun H5 s5 hE5 => ?_⟩
          refine ⟨⟨_, _, _, rfl⟩, s5, ?_, hlt⟩
          rw [e2]
          simp only [stepsOf, c1, c2, if_true, if_false, List.nil_append]
          exact hE5
        · have c2 : ¬ rb = v := by simpa using c2
          refine ⟨⟨_, _, _, rfl⟩, s2, ?_, hlt⟩
          rw [e2]
          simp only [stepsOf, c1, c2, if_false, List.append_nil]
          exact hE
    · rintro σ H2 ⟨⟨v1, v2, v3, rfl⟩, s2, hE, _⟩
      rw [hlx, List.take_length] at hE
      exact ⟨_, rfl, k q H2 hq s2 hE⟩
end
end WR
namespace WR
open PySem L2
/-- the pairs of a dict of ways -/
def Fnd (H : Hp) (kvs : List (Key × V)) (tab : List Ent) : Prop := Paired (fun (kv : Key × V) (e : Ent) => kv.1 = Sum.inl e.1 ∧ Rep H kv.2 (pairD e.2)) kvs tab
theorem froz_pair (p : Int × Int) : Froz (pairD p) := by unfold pairD Froz Frozs Frozs Frozs Froz; simp
theorem Fnd.froz {H H' : Hp} {kvs : List (Key × V)} {tab : List Ent} (h : Fnd H kvs tab) (k : ∀ b xs, H b = some (.tup xs) → H' b = some (.tup xs)) : Fnd H' kvs tab := Paired.mapP h fun _ _ z => ⟨z.1, z.2.froz k (froz_pair _)⟩
theorem Fnd.none {H : Hp} {kvs : List (Key × V)} {tab : List Ent} (h : Fnd H kvs tab) {x : Int} (hx : x ∉ keys tab) : valV kvs (Sum.inl x : Key) = none := by
  unfold Fnd at h
  induction h with
  | nil => rfl
  | cons r t ih =>
    rename_i kv e kvs' tab'
    unfold keys at hx
    rw [List.map_cons, List.mem_cons] at hx
    rw [valV_neg]
    · exact ih fun z => hx (.inr z)
    · rw [r.1]
      intro z
      exact hx (.inl (Sum.inl.inj z).symm)
theorem Fnd.some {H : Hp} {kvs : List (Key × V)} {tab : List Ent} (h : Fnd H kvs tab) {x p d : Int} (nd : (keys tab).Nodup) (hx : (x, p, d) ∈ tab) : ∃ a, valV kvs (Sum.inl x : Key) = Option.some (.ref a) ∧ H a = Option.some (.tup [.int p, .int d]) := by
  unfold Fnd at h
  induction h with
  | nil => simp at hx
  | cons r t ih =>
    rename_i kv e kvs' tab'
    unfold keys at nd
    rw [List.map_cons] at nd
    obtain ⟨n1, n2⟩ := List.nodup_cons.mp nd
    rcases List.mem_cons.mp hx with z | z
    · subst z
      rw [valV_pos r.1]
      obtain ⟨a, e, ha⟩ := pairD_at r.2
      exact ⟨a, by rw [e], ha⟩
    · rw [valV_neg]
      · exact ih n2 z
      · rw [r.1]
        intro q
        exact n1 (List.mem_map.mpr ⟨_, z, (Sum.inl.inj q).symm⟩)
theorem Fnd.length {H : Hp} {kvs : List (Key × V)} {tab : List Ent} (h : Fnd H kvs tab) : kvs.length = tab.length := Paired.length h
theorem Fnd.snoc {H : Hp} {kvs : List (Key × V)} {tab : List Ent} (h : Fnd H kvs tab) {y p d : Int} {a : Addr} (hy : y ∉ keys tab) (ha : H a = Option.some (.tup [.int p, .int d])) : Fnd H (putK kvs (Sum.inl y : Key) (.ref a)) (tab ++ [(y, p, d)]) := by
  rw [putK_new _ (h.none hy)]
  exact Paired.snoc h ⟨rfl, pairD_mk ha⟩
def FoundD (H : Hp) (q : Addr) (tab : List Ent) : Prop := ∃ kvs, H q = some (.dK kvs) ∧ Fnd H kvs tab
theorem FoundD.keep {H H' : Hp} {q : Addr} {tab : List Ent} (k : Same H H') (h : FoundD H q tab) : FoundD H' q tab := let ⟨kvs, h1, h2⟩ := h; ⟨kvs, k _ _ h1, h2.froz fun _ _ e => k _ _ e⟩
def sp_reached : Sp := fun vs H Q _ => ∃ (p : Addr) (rs : List Road) (s : Int), vs = [.ref p, .int s] ∧ RoadsAt H p rs ∧ rs.length ≤ 1000 ∧
  ∀ q tab H', H q = none → Same H H' → FoundD H' q tab → Tab rs s tab → (∀ x ∈ keys tab, Closed rs tab x) → Q (.ref q) H'
theorem PairsAt.get {H : Hp} {ps : List (Int × Int)} {xs : List V} (h : Reps H xs (ps.map pairD)) {i : Nat} {x : V} (hx : xs[i]? = some x) : ∃ r a, ps[i]? = some r ∧ x = .ref a ∧ H a = some (.tup [.int r.1, .int r.2]) := by
  obtain ⟨d, hd, hr⟩ := h.at hx
  rw [List.getElem?_map] at hd
  cases q : ps[i]? with
  | none => rw [q] at hd; cases hd
  | some r =>
    rw [q] at hd
    cases hd
    obtain ⟨a, e, ha⟩ := pairD_at hr
    exact ⟨r, a, rfl, e, ha⟩
theorem last_map {ws : List Int} {h : Int} : ((ws ++ [h]).map V.int)[((ws ++ [h]).map V.int).length - 1]? = some (.int h) := by simp
theorem drop_map {ws : List Int} {h : Int} : ((ws ++ [h]).map V.int).dropLast = ws.map V.int := by simp
theorem nil_or_snoc {α : Type} (l : List α) : l = [] ∨ ∃ r a, l = r ++ [a] := by
  rcases List.eq_nil_or_concat l with h | ⟨r, a, h⟩
  · exact .inl h
  · exact .inr ⟨r, a, by rw [h, List.concat_eq_append]⟩
section
variable {P : Program} {w : World} {K : PySem.W.Frag} {mg : Str → Option Value} {base : Heap} {t : Adr}
theorem ok_reached (TT : Txt K mg t) : FnOk P w K mg base CX0 2 t.f_reached t.d_reached ["roads", "start"] sp_reached := by
  refine TT.F_reached.ok sc_reached (fun vs H Q E h => ?_) (fun cdv A outer sh H vs Q E hr h => ?_)
  · obtain ⟨p, rs, s, rfl, _⟩ := h
    rfl
  · obtain ⟨p, rs, s, rfl, hR, hlen, k⟩ := h
    have hu := hu_of hr
    refine ⟨_, (pss_cons (ps_set (i := 2) sc_reached.nd rfl (Or.inl rfl) (pe_disp (pps_cons (pv 1) (pe_tup (pa_cons (pv 1) (pa_consC pe_int pa_nil))) pps_nil) rfl rfl (fun h => nomatch h) (by decide))) (pss_cons (ps_set (i := 3) sc_reached.nd rfl (Or.inl rfl) (pe_lst (pa_cons (pv 1) pa_nil))) (pss_cons (ps_while PassesOwn.never (pt_truth (pv 3) (fun _ => rfl)) (pss_cons (ps_set (i := 4) sc_reached.nd rfl (Or.inl rfl) (pe_bm0 PySem.F.plainAttrs_list PySem.F.slot_list_pop PySem.F.type_list_pop mt_pop (pv 3))) (pss_one (ps_for PassesOwn.never rfl (pi_list (pe_call (ok_steps TT) (hr.mono (by decide)) rfl TT.m_steps TT.F_steps.kp TT.b_steps .nil pass0 (pa_cons (pv 0) (pa_cons (pv 4) pa_nil)))) (pg_tup rfl (pgs_cons (pg_name (i := 5) sc_reached.nd rfl (Or.inl rfl)) (pgs_cons (pg_name (i := 6) sc_reached.nd rfl (Or.inl rfl)) pgs_nil))) (pss_one (ps_if (pt_cmp (pc_dnotin hu (pv 5) (pv 2))) (pss_cons (ps_dput hu (pv 2) (pv 5) (pe_tup (pa_cons (pv 4) (pa_consB (pe_op op_add (pe_ix ix_tup (pe_dget hu (pv 2) (pv 4) (fun _ _ => rfl)) pe_int (fun _ _ => rfl)) (pv 6)) pa_nil))) rfl) (pss_one (ps_expr (pe_bm PySem.F.plainAttrs_list PySem.F.slot_list_append PySem.F.type_list_append mt_append (pv 3) (pa_cons (pv 5) pa_nil))))) pss_nil)))))) (pss_one (ps_ret (pv 2)))))), ?_⟩
    -- found = {start: (start, 0)}
    intro q hq
    refine ⟨_, rfl, _, rfl, by show 2 ≤ sizeLine; decide, fun a ha => ?_⟩
    have hqa : q ≠ a := fun z => by subst z; rw [upd_same] at ha; cases ha
    have ha0 : H a = none := by rw [upd_ne hqa.symm] at ha; exact ha
    refine ⟨by rw [upd_ne hqa, upd_same], [(Sum.inl s, .ref a)], rfl, by show 1 ≤ 15; decide, ?_⟩
    -- waiting = [start]
    refine ⟨_, rfl, by show 1 ≤ sizeLine; decide, fun u hu0 => ?_⟩
    have huq : u ≠ q := fun z => by subst z; rw [upd_same] at hu0; cases hu0
    have hua : u ≠ a := fun z => by subst z; rw [upd_ne hqa.symm, upd_same] at hu0; cases hu0
    have hun : H u = none := by rw [upd_ne huq, upd_ne hua, upd_ne huq] at hu0; exact hu0
    -- while waiting
    refine ⟨fun m σ H2 => ∃ tab ws kvs v4 v5 v6, σ = [some (.ref p), some (.int s), some (.ref q), some (.ref u), v4, v5, v6] ∧ Same H H2 ∧ H2 q = some (.dK kvs) ∧ Fnd H2 kvs tab ∧ H2 u = some (.lst (ws.map V.int)) ∧ RI rs s tab ws ∧ m = ws.length + 2 * (2 * rs.length + 1 - tab.length) ∧ m ≤ 4 * rs.length + 1, ⟨_, [(s, s, 0)], [s], [(Sum.inl s, .ref a)], none, none, none, rfl, ?_, ?_, ?_, upd_same, RI.begin rs s, rfl, by simp only [List.length_cons, List.length_nil]; omega⟩, ?_⟩
    · intro b o e
      rw [upd_ne (ne_of_none e hun), upd_ne (ne_of_none e hq), upd_ne (ne_of_none e ha0), upd_ne (ne_of_none e hq)]
      exact e
    · rw [upd_ne huq.symm, upd_same]; rfl
    · refine .cons ⟨rfl, pairD_mk ?_⟩ .nil
      rw [upd_ne hua.symm, upd_ne hqa.symm, upd_same]
    · rintro m σ H2 ⟨tab, ws, kvs, v4, v5, v6, rfl, s2, hq2, hF, hu2, I, rfl, hm0⟩
      refine ⟨_, rfl, _, .inl ⟨_, SqL.of hu2, rfl⟩, ?_⟩
      rcases nil_or_snoc ws with rfl | ⟨ws', h, rfl⟩
      · refine iteF ?_
        exact ⟨_, rfl, k q tab H2 hq s2 ⟨kvs, hq2, hF⟩ I.T I.fin⟩
      · have et : (!((ws' ++ [h]).map V.int).isEmpty) = true := by simp
        rw [et]
        refine iteT ⟨_, fun σ' H' z => z, ?_⟩
        -- here = waiting.pop()
        refine ⟨_, rfl, .inl ⟨rfl, _, SqL.of hu2⟩, u, _, _, rfl, rfl, hu2, last_map, ?_⟩
        rw [drop_map]
        have J := I.pop
        have uq : u ≠ q := huq
        have s3 : Same H (upd H2 u (.lst (ws'.map V.int))) := fun b o e => by rw [upd_ne (ne_of_none e hun)]; exact s2 _ _ e
        -- for there, length in steps(roads, here)
        refine ⟨_, rfl, _, rfl, p, rs, h, rfl, hR.keep s3, hlen, fun c H3 hc s4 hP => ?_⟩
        obtain ⟨xs, hcx, hxs⟩ := hP
        have hq3 : H3 q = some (.dK kvs) := s4 _ _ (by rw [upd_ne uq.symm]; exact hq2)
        have hu3 : H3 u = some (.lst (ws'.map V.int)) := s4 _ _ upd_same
        have hcq : c ≠ q := fun z => by subst z; rw [upd_ne uq.symm, hq2] at hc; cases hc
        have hcu : c ≠ u := fun z => by subst z; rw [upd_same] at hc; cases hc
        have hF3 : Fnd H3 kvs tab := hF.froz fun b ys e => s4 _ _ (by rw [upd_ne]; exact e; intro z; subst z; rw [hu2] at e; cases e)
        have hlx := hxs.length
        rw [List.length_map] at hlx
        refine ⟨c, rfl, ⟨_, SqL.of hcx⟩, for_list (K := K) (a := c) (xs := xs) (fun j σ H4 => ∃ tab2 ws2 kvs2 v5 v6, σ = [some (.ref p), some (.int s), some (.ref q), some (.ref u), some (.int h), v5, v6] ∧ (∀ b o, b ≠ q → b ≠ u → H3 b = some o → H4 b = some o) ∧ H4 q = some (.dK kvs2) ∧ Fnd H4 kvs2 tab2 ∧ H4 u = some (.lst (ws2.map V.int)) ∧ RJ rs s h j tab2 ws2 ∧ ws2.length + 2 * (2 * rs.length + 1 - tab2.length) < (ws' ++ [h]).length + 2 * (2 * rs.length + 1 - tab.length))
          ⟨tab, ws', kvs, v5, v6, rfl, fun _ _ _ _ e => e, hq3, hF3, hu3, J, by rw [List.length_append]; simp only [List.length_cons, List.length_nil]; omega⟩ (fun j σ H4 _ ⟨_, _, _, _, _, _, e, _⟩ => SqL.of (e _ _ hcq hcu hcx)) ?_ ?_⟩
        · rintro j x σ H4 hj ⟨tab2, ws2, kvs2, v5', v6', rfl, s5, hq4, hF4, hu4, J2, hm⟩
          obtain ⟨⟨y, l⟩, b, hpj, rfl, hb⟩ := PairsAt.get hxs hj
          have hbq : b ≠ q := ne_of hb hq3 (by intro z; cases z)
          have hbu : b ≠ u := ne_of hb hu3 (by intro z; cases z)
          have hb4 := s5 _ _ hbq hbu hb
          refine ⟨b, _, rfl, SqT.of hb4, rfl, _, _, rfl, _, _, rfl, rfl, ?_⟩
          -- if there not in found
          refine ⟨_, rfl, _, rfl, q, _, rfl, DGet.k (k := Sum.inl y) hq4, _, rfl, ?_⟩
          by_cases hy : y ∈ keys tab2
          · obtain ⟨py, dy, hmy⟩ := mem_keys.mp hy
            obtain ⟨a', e', _⟩ := hF4.some J2.T.nd hmy
            rw [e']
            exact iteF ⟨tab2, ws2, kvs2, _, _, rfl, s5, hq4, hF4, hu4, J2.skip hpj hy, hm⟩
          · have e' := hF4.none hy
            rw [e']
            refine iteT ?_
            -- found[there] = (here, found[here][1] + length)
            obtain ⟨ph, dh, hmh⟩ := mem_keys.mp J2.here
            obtain ⟨a', e2, ha'⟩ := hF4.some J2.T.nd hmh
            refine ⟨_, rfl, _, rfl, _, rfl, q, _, rfl, .inl ⟨kvs2, Sum.inl h, .inl hq4, rfl, e2.symm⟩, a', _, 1, _, rfl, rfl, SqT.of ha', atI_nat (j := 1) rfl, _, rfl, _, _, rfl, rfl, by show 2 ≤ sizeLine; decide, fun d hd => ?_⟩
            have hdq : d ≠ q := fun z => by subst z; rw [hq4] at hd; cases hd
            have hdu : d ≠ u := fun z => by subst z; rw [hu4] at hd; cases hd
            have hbound := J2.T.bound
            have hkl := hF4.length
            refine ⟨_, rfl, _, rfl, q, _, rfl, DPut.k (k := Sum.inl y) (by rw [upd_ne hdq.symm]; exact hq4) (by rw [hkl, sizeLine_eq]; omega), ?_⟩
            -- waiting.append(there)
            have hu5 : (upd (upd H4 d (.tup [.int h, .int (dh + l)])) q (.dK (putK kvs2 (Sum.inl y : Key) (.ref d)))) u = some (.lst (ws2.map V.int)) := by rw [upd_ne uq, upd_ne hdu.symm]; exact hu4
            have hwl : ws2.length ≤ 4001 := by omega
            refine ⟨_, rfl, .inl ⟨rfl, _, SqL.of hu5⟩, _, rfl, u, _, _, rfl, rfl, hu5, by rw [List.length_map, sizeLine_eq]; omega, ?_⟩
            have J3 := J2.add hpj hy hmh
            have hbound3 := J3.T.bound
            rw [List.length_append] at hbound3
            refine ⟨tab2 ++ [(y, h, dh + l)], ws2 ++ [y], _, _, _, rfl, fun b' o n1 n2 e => ?_, by rw [upd_ne uq.symm, upd_same], ?_, by rw [upd_same, List.map_append]; rfl, J3, ?_⟩
            · rw [upd_ne n2, upd_ne n1]
              have e4 := s5 _ _ n1 n2 e
              rw [upd_ne (ne_of_none e4 hd)]
              exact e4
            · have hd6 : (upd (upd (upd H4 d (.tup [.int h, .int (dh + l)])) q (.dK (putK kvs2 (Sum.inl y : Key) (.ref d)))) u (.lst (ws2.map V.int ++ [V.int y]))) d = some (.tup [.int h, .int (dh + l)]) := by rw [upd_ne hdu, upd_ne hdq, upd_same]
              refine (hF4.froz fun b' ys e => ?_).snoc hy hd6
              have n1 : b' ≠ q := ne_of e hq4 (by intro z; cases z)
              have n2 : b' ≠ u := ne_of e hu4 (by intro z; cases z)
              rw [upd_ne n2, upd_ne n1, upd_ne (ne_of_none e hd)]
              exact e
            · rw [List.length_append, List.length_append]
              simp only [List.length_cons, List.length_nil] at *
              omega
        · rintro σ H4 ⟨tab2, ws2, kvs2, v5', v6', rfl, s5, hq4, hF4, hu4, J2, hm⟩
          rw [hlx] at J2
          refine ⟨_, hm, tab2, ws2, kvs2, _, _, _, rfl, fun b o e => ?_, hq4, hF4, hu4, J2.fin, rfl, by omega⟩
          exact s5 _ _ (ne_of_none e hq) (ne_of_none e hun) (s4 _ _ (s3 _ _ e))
end
end WR
namespace WR
open PySem L2
theorem wholeV_iff {i a b : Int} : wholeV (.int i) a b = true ↔ a ≤ i ∧ i ≤ b := by
  show (decide (a ≤ i) && decide (i ≤ b)) = true ↔ _
  simp
theorem roadB_all {n : Nat} {rs : List Road} : (rs.map (roadB n)).all id = true ↔ Roads n rs := by
  rw [List.all_eq_true]
  have e : ∀ r : Road, roadB n r = true ↔ (0 ≤ r.1 ∧ r.1 ≤ (n : Int) - 1) ∧ (0 ≤ r.2.1 ∧ r.2.1 ≤ (n : Int) - 1) ∧ r.1 ≠ r.2.1 ∧ 1 ≤ r.2.2 ∧ r.2.2 ≤ 1000000 := fun r => by
    unfold roadB
    rw [Bool.and_eq_true, Bool.and_eq_true, Bool.and_eq_true, wholeV_iff, wholeV_iff, wholeV_iff]
    simp only [Bool.not_eq_true', decide_eq_false_iff_not, and_assoc]
  constructor
  · intro h
    have h' : ∀ r ∈ rs, roadB n r = true := fun r hr => h _ (List.mem_map.mpr ⟨r, hr, rfl⟩)
    exact ⟨fun r hr => by have := (e r).mp (h' r hr); omega, fun r hr => by have := (e r).mp (h' r hr); omega, fun r hr => ((e r).mp (h' r hr)).2.2.1, fun r hr => ((e r).mp (h' r hr)).2.2.2⟩
  · intro R x hx
    obtain ⟨r, hr, rfl⟩ := List.mem_map.mp hx
    refine (e r).mpr ?_
    have a1 := R.lo r hr; have a2 := R.hi r hr; have a3 := R.ne r hr; have a4 := R.ps r hr
    exact ⟨⟨a1.1, by omega⟩, ⟨a1.2, by omega⟩, a3, a4⟩
/-- it is a tree of the document's size -/
def IsTree (n : Int) (rs : List Road) : Prop := 1 ≤ n ∧ n ≤ 12 ∧ Tree n.toNat rs
def sp_is_tree : Sp := fun vs H Q _ => ∃ (p : Addr) (n : Int) (rs : List Road), vs = [.int n, .ref p] ∧ RoadsAt H p rs ∧ rs.length ≤ 1000 ∧ ∀ b H', Same H H' → (b = true ↔ IsTree n rs) → Q (.bl b) H'
section
variable {P : Program} {w : World} {K : PySem.W.Frag} {mg : Str → Option Value} {base : Heap} {t : Adr}
theorem ok_is_tree (TT : Txt K mg t) : FnOk P w K mg base CX0 4 t.f_is_tree t.d_is_tree ["villages", "roads"] sp_is_tree := by
  refine TT.F_is_tree.ok sc_is_tree (fun vs H Q E h => ?_) (fun cdv A outer sh H vs Q E hr h => ?_)
  · obtain ⟨p, n, rs, rfl, _⟩ := h
    rfl
  · obtain ⟨p, n, rs, rfl, hR, hlen, k⟩ := h
    have hu := hu_of hr
    refine ⟨_, (pss_cons (ps_if (pt_not (pt_val (pe_call (ok_is_whole TT) (hr.mono (by decide)) rfl TT.m_is_whole TT.F_is_whole.kp TT.b_is_whole .nil pass0 (pa_cons (pv 0) (pa_consC pe_int (pa_cons (pe_glob (v := .int 12) rfl TT.g_MOST_VILLAGES ⟨_, rfl⟩) pa_nil)))))) (pss_one (ps_ret pe_bl)) pss_nil) (pss_cons (ps_if (PW.pt (pw_or (pt_not (pt_val (pe_callB call_isinst rfl TT.z_isinstance WB.bt_isinstance (pa_cons (pv 1) (pa_cons (pe_bltn (v := .ty "list") rfl TT.z_list WB.bt_list rfl) pa_nil))))) (pw_or1 (pt_cmpR op_ne (pe_callB call_len_seq rfl TT.z_len WB.bt_len (pa_cons (pv 1) pa_nil)) (pe_op op_sub (pv 0) pe_int) (nomark _))))) (pss_one (ps_ret pe_bl)) pss_nil) (pss_cons (ps_if (pt_not (pt_val (pe_callB (call_all rfl) rfl TT.z_all WB.bt_all (pa_cons (pe_comp rfl (N := ["road", "villages"]) (fr := [(1, 0)]) (compOk (N0 := ["villages", "roads"]) (N := ["road", "villages"]) (fr := [(1, 0)]) (sc0 := defScope s_is_tree) rfl ⟨rfl, rfl⟩ (by decide +kernel)) (pi_list (pv 1)) (fun _ _ _ _ _ => ⟨(pg_name (i := 0) (show (["road", "villages"] : List Str).Nodup by decide +kernel) rfl (Or.inl rfl)), pf_none, (pe_call (ok_is_road TT) (hr.mono (by decide)) rfl TT.m_is_road TT.F_is_road.kp TT.b_is_road .nil pass0 (pa_cons (pv 0) (pa_cons (pv 1) pa_nil)))⟩)) pa_nil)))) (pss_one (ps_ret pe_bl)) pss_nil) (pss_one (ps_ret (pe_cmpR op_eq (pe_callB call_lenD rfl TT.z_len WB.bt_len (pa_cons (pe_call (ok_reached TT) (hr.mono (by decide)) rfl TT.m_reached TT.F_reached.kp TT.b_reached .nil pass0 (pa_cons (pv 1) (pa_consC pe_int pa_nil))) pa_nil)) (pv 0) (nomark _))))))), ?_⟩
    obtain ⟨xs, hp, hxs⟩ := hR
    have hlx := hxs.length
    rw [List.length_map] at hlx
    refine ⟨_, rfl, _, _, _, rfl, .int _, _, rfl, ?_⟩
    cases e1 : wholeV (.int n) 1 12 with
    | false => exact iteT (k false H (Same.refl H) ⟨fun z => (nomatch z), fun z => by rw [wholeV_iff.mpr ⟨z.1, z.2.1⟩] at e1; cases e1⟩)
    | true =>
      obtain ⟨n1, n2⟩ := wholeV_iff.mp e1
      obtain ⟨m, rfl⟩ := Int.eq_ofNat_of_zero_le (show 0 ≤ n by omega)
      refine iteF ⟨_, rfl, _, "list", .type "list", true, rfl, .lst hp, kit_ll, true, rfl, iteF ?_⟩
      refine ⟨_, rfl, p, _, rfl, .inl (SqL.of hp), _, rfl, _, _, rfl, rfl, rfl, _, rfl, ?_⟩
      rw [hlx]
      by_cases e2 : rs.length + 1 = m
      · have hd : (!decide (V.int (rs.length : Int) = V.int ((m : Int) - 1))) = false := by
          have : (rs.length : Int) = (m : Int) - 1 := by omega
          rw [this]; simp
        refine ite_f hd ?_
        -- all([is_road(road, villages) for road in roads])
        refine ⟨_, rfl, p, rfl, ⟨_, SqL.of hp⟩, fun acc hacc => comp_list (K := K) (xs := xs) (fun i τ ys H2 => (∃ v, τ = [v, some (.int m)]) ∧ ys = ((rs.take i).map (roadB m)).map V.bl ∧ H2 acc = some (.lst ys) ∧ Same H H2 ∧ i ≤ rs.length) ⟨⟨_, rfl⟩, rfl, upd_same, same_new hacc, Nat.zero_le _⟩
          (fun i τ ys H2 _ ⟨_, _, h3, h4, _⟩ => ⟨SqL.of (h4 _ _ hp), h3⟩) ?_ ?_⟩
        · rintro i x τ ys H2 R hi ⟨⟨v, rfl⟩, rfl, h3, h4, h5⟩ hR
          obtain ⟨r, a, hri, rfl, ha⟩ := RoadsAt.get hp hxs hi
          have hlt : i < rs.length := (List.getElem?_eq_some_iff.mp hri).1
          refine noifN ?_
          refine ⟨_, rfl, _, rfl, a, m, r, rfl, h4 _ _ ha, fun H' s' => ⟨s' _ _ h3, by simp only [List.length_map, List.length_take]; rw [sizeLine_eq]; omega, hR _ _ _ ⟨⟨_, rfl⟩, ?_, upd_same, fun b o e => ?_, hlt⟩⟩⟩
          · rw [List.take_add_one, hri]; simp
          · rw [upd_ne (ne_of_none e hacc)]; exact s' _ _ (h4 _ _ e)
        · rintro τ ys H2 ⟨⟨v, rfl⟩, rfl, h3, h4, h5⟩
          rw [hlx, List.take_length] at h3
          refine ⟨acc, rs.map (roadB m), rfl, SqL.of h3, _, rfl, ?_⟩
          cases e3 : (rs.map (roadB m)).all id with
          | false => exact iteT (k false H2 h4 ⟨fun z => (nomatch z), fun z => by have := roadB_all.mpr z.2.2.roads; simp only [Int.toNat_natCast] at this; rw [this] at e3; cases e3⟩)
          | true =>
            refine iteF ?_
            have R := roadB_all.mp e3
            -- return len(reached(roads, 0)) == villages
            refine ⟨_, rfl, p, rs, 0, rfl, ⟨xs, h4 _ _ hp, hxs.keep h4⟩, hlen, fun q tab H3 hq s3 ⟨kvs, hqd, hF⟩ T hc => ⟨q, kvs, rfl, hqd, _, rfl, rfl, ?_⟩⟩
            refine k _ H3 (h4.trans s3) ?_
            rw [hF.length]
            have := tree_iff R e2 T hc
            simp only [decide_eq_true_eq, V.int.injEq]
            constructor
            · intro z
              exact ⟨n1, n2, by simp only [Int.toNat_natCast]; exact this.mp (by omega)⟩
            · intro z
              have z3 := z.2.2
              simp only [Int.toNat_natCast] at z3
              have := this.mpr z3
              omega
      · have hd : (!decide (V.int (rs.length : Int) = V.int ((m : Int) - 1))) = true := by
          have : ¬ (rs.length : Int) = (m : Int) - 1 := by omega
          simp [this]
        refine ite_t hd ?_
        exact k false H (Same.refl H) ⟨fun z => (nomatch z), fun z => by have := z.2.2.count; simp only [Int.toNat_natCast] at this; exact absurd this e2⟩
end
end WR
namespace WR
open PySem L2
/-! ### a Tree -/
def flds (n : Int) (q : Addr) : List (Str × V) := putF "road_list" (.ref q) (putF "size" (.int n) [])
/-- a Tree stands at x, its list of roads at q -/
structure TreeAt (C : Addr) (H : Hp) (x q : Addr) (n : Int) (rs : List Road) : Prop where
  ob : ∃ dx, H x = some (.ins C dx (flds n q))
  rd : RoadsAt H q rs
  ok : IsTree n rs
theorem TreeAt.keep {C : Addr} {H H' : Hp} {x q : Addr} {n : Int} {rs : List Road} (T : TreeAt C H x q n rs) (k : Same H H') : TreeAt C H' x q n rs := ⟨let ⟨dx, h⟩ := T.ob; ⟨dx, k _ _ h⟩, T.rd.keep k, T.ok⟩
theorem IsTree.len {n : Int} {rs : List Road} (h : IsTree n rs) : rs.length ≤ 1000 := by
  have := h.2.2.count
  have := h.2.1
  omega
def sp_Tree_init (C : Addr) : Sp := fun vs H Q _ => ∃ (x dx p : Addr) (n : Int) (rs : List Road), vs = [.ref x, .int n, .ref p] ∧ H x = some (.ins C dx []) ∧ RoadsAt H p rs ∧ IsTree n rs ∧
  ∀ q H', H q = none → TreeAt C H' x q n rs → (∀ b o, H b = some o → b ≠ x → H' b = some o) → Q .non H'
def sp_Tree_roads (C : Addr) : Sp := fun vs H Q _ => ∃ (x q : Addr) (n : Int) (rs : List Road), vs = [.ref x] ∧ TreeAt C H x q n rs ∧ ∀ p H', H p = none → Same H H' → RoadsAt H' p rs → Q (.ref p) H'
def sp_need_village (C : Addr) : Sp := fun vs H Q _ => ∃ (x q : Addr) (n : Int) (rs : List Road) (v : Int), vs = [.ref x, .int v] ∧ TreeAt C H x q n rs ∧ InV n.toNat v ∧ ∀ H', Same H H' → Q .non H'
section
variable {P : Program} {w : World} {K : PySem.W.Frag} {mg : Str → Option Value} {base : Heap} {t : Adr}
theorem ok_Tree_init (TT : Txt K mg t) : FnOk P w K mg base CX0 5 t.f_Tree_init t.d_Tree_init ["self", "villages", "roads"] (sp_Tree_init t.C_Tree) := by
  refine TT.F_Tree_init.ok sc_Tree_init (fun vs H Q E h => ?_) (fun cdv A outer sh H vs Q E hr h => ?_)
  · obtain ⟨x, dx, p, n, rs, rfl, _⟩ := h
    rfl
  · obtain ⟨x, dx, p, n, rs, rfl, hx, hR, hT, k⟩ := h
    refine ⟨_, (pss_cons (ps_if (pt_not (pt_val (pe_call (ok_is_tree TT) (hr.mono (by decide)) rfl TT.m_is_tree TT.F_is_tree.kp TT.b_is_tree .nil pass0 (pa_cons (pv 1) (pa_cons (pv 2) pa_nil))))) (pss_one ps_never) pss_nil) (pss_cons (ps_fld (pv 0) (pv 1) rfl) (pss_one (ps_fld (pv 0) (pe_callTy call_list_of rfl TT.z_list WB.bt_list (pa_cons (pv 2) pa_nil)) rfl)))), ?_⟩
    refine ⟨_, rfl, _, rfl, p, n, rs, rfl, hR, hT.len, fun b H1 s1 hb => ⟨b, rfl, ?_⟩⟩
    refine ite_f (by rw [hb.mpr hT]; rfl) ?_
    -- self.size = villages
    refine ⟨_, rfl, _, rfl, x, t.C_Tree, dx, _, rfl, s1 _ _ hx, TT.cl_Tree, TT.n_Tree_size, by show 0 < 1000; decide, ?_⟩
    -- self.road_list = list(roads)
    obtain ⟨xs, hp, hxs⟩ := hR
    have hpx : p ≠ x := ne_of hp hx (by intro z; cases z)
    refine ⟨_, rfl, p, _, rfl, .inl (SqL.of (by rw [upd_ne hpx]; exact s1 _ _ hp)), fun q hq => ?_⟩
    have hqx : q ≠ x := fun z => by subst z; rw [upd_same] at hq; cases hq
    have hq1 : H1 q = none := by rw [upd_ne hqx] at hq; exact hq
    have hq0 : H q = none := s1.free hq1
    refine ⟨_, rfl, x, t.C_Tree, dx, _, rfl, by rw [upd_ne hqx.symm, upd_same], TT.cl_Tree, TT.n_Tree_road_list, by show 1 < 1000; decide, ?_⟩
    have kp : ∀ b o, H b = some o → b ≠ x → upd (upd (upd H1 x (.ins t.C_Tree dx (putF "size" (.int n) []))) q (.lst xs)) x (.ins t.C_Tree dx (flds n q)) b = some o := fun b o e hb => by
      rw [upd_ne hb, upd_ne (ne_of_none e hq0), upd_ne hb]
      exact s1 _ _ e
    refine k q _ hq0 ⟨⟨dx, upd_same⟩, ⟨xs, by rw [upd_ne hqx, upd_same], ?_⟩, hT⟩ kp
    refine hxs.froz (fun b ys e => kp b _ e ?_) (frozs_roads rs)
    intro z; subst z; rw [hx] at e; cases e
end
end WR
namespace WR
open PySem L2
def sp_cell_at (K : PySem.W.Frag) : Sp := fun vs H Q _ => ∃ (a : Addr) (ns : List Int) (k : Int), vs = [.ref a, .int k] ∧ SqL K H a (ns.map V.int) ∧ 0 ≤ k ∧ ∀ c, Q (.int c) H
def sp_draw : Sp := fun vs H Q _ => ∃ (cell k many : Int), vs = [.int cell, .int k, .int many] ∧ 0 ≤ k ∧ k < 2 ^ 62 ∧ 0 < many ∧ ∀ r H', 0 ≤ r → r < many → Same H H' → Q (.int r) H'
section
variable {P : Program} {w : World} {K : PySem.W.Frag} {mg : Str → Option Value} {base : Heap} {t : Adr}
theorem ok__law_cell_at (TT : Txt K mg t) : FnOk P w K mg base CX0 1 t.f__law_cell_at t.d__law_cell_at ["_law_script", "_law_k"] (sp_cell_at K) := by
  refine TT.F__law_cell_at.ok sc__law_cell_at (fun vs H Q E h => ?_) (fun cdv A outer sh H vs Q E hr h => ?_)
  · obtain ⟨a, ns, k, rfl, _⟩ := h
    rfl
  · obtain ⟨a, ns, k, rfl, hS, h0, q⟩ := h
    refine ⟨_, (pss_cons (ps_if (pt_cmpR op_lt (pv 1) (pe_callB call_len_seq rfl TT.z_len WB.bt_len (pa_cons (pv 0) pa_nil)) (nomark _)) (pss_one (ps_ret (pe_ix ix_list (pv 0) (pv 1) (fun _ _ => rfl)))) pss_nil) (pss_one (ps_ret pe_int))), ?_⟩
    refine ⟨_, rfl, _, rfl, a, _, rfl, .inl hS, _, _, rfl, rfl, _, rfl, ite2 (fun c => ?_) (fun c => ?_)⟩
    · have c : k < ((ns.map V.int).length : Int) := by simpa using c
      rw [List.length_map] at c
      obtain ⟨j, rfl⟩ := Int.eq_ofNat_of_zero_le h0
      have hj : j < ns.length := by omega
      refine ⟨_, rfl, _, rfl, a, _, _, .int ns[j], rfl, rfl, hS, atI_nat (j := j) (by rw [List.getElem?_map, List.getElem?_eq_getElem hj]; rfl), q _⟩
    · exact q 0
def primes : List V := [.int 1000003, .int 1000033, .int 1000037, .int 1000039, .int 1000081, .int 1000099, .int 1000117, .int 1000121]
theorem prime_at {m : Int} (h0 : 0 ≤ m) (h1 : m < 8) : ∃ p : Int, atI primes m = some (.int p) ∧ 0 < p := by
  obtain ⟨j, rfl⟩ := Int.eq_ofNat_of_zero_le h0
  have hj : j < 8 := by omega
  match j, hj with
  | 0, _ => exact ⟨1000003, by rfl, by decide⟩
  | 1, _ => exact ⟨1000033, by rfl, by decide⟩
  | 2, _ => exact ⟨1000037, by rfl, by decide⟩
  | 3, _ => exact ⟨1000039, by rfl, by decide⟩
  | 4, _ => exact ⟨1000081, by rfl, by decide⟩
  | 5, _ => exact ⟨1000099, by rfl, by decide⟩
  | 6, _ => exact ⟨1000117, by rfl, by decide⟩
  | 7, _ => exact ⟨1000121, by rfl, by decide⟩
theorem ok__law_draw (TT : Txt K mg t) : FnOk P w K mg base CX0 1 t.f__law_draw t.d__law_draw ["_law_cell", "_law_k", "_law_many"] sp_draw := by
  refine TT.F__law_draw.ok sc__law_draw (fun vs H Q E h => ?_) (fun cdv A outer sh H vs Q E hr h => ?_)
  · obtain ⟨cell, k, many, rfl, _⟩ := h
    rfl
  · obtain ⟨cell, k, many, rfl, k0, k1, hm, q⟩ := h
    refine ⟨_, (pss_cons (ps_set (i := 3) sc__law_draw.nd rfl (Or.inl rfl) (pe_tup (pa_consC pe_int (pa_consC pe_int (pa_consC pe_int (pa_consC pe_int (pa_consC pe_int (pa_consC pe_int (pa_consC pe_int (pa_consC pe_int pa_nil)))))))))) (pss_cons (ps_set (i := 4) sc__law_draw.nd rfl (Or.inl rfl) (pe_op op_add (pe_op op_add (pe_op op_mul (pv 0) pe_int) (pe_op op_mul (pv 1) pe_int)) (pe_op op_mul (pe_op op_mod (pe_op op_fdiv (pv 0) pe_int) pe_int) pe_int))) (pss_one (ps_ret (pe_op op_mod (pe_op op_mod (pv 4) (pe_ix ix_tup (pv 3) (pe_op op_mod (pv 1) pe_int) (fun _ _ => rfl))) (pv 2)))))), ?_⟩
    refine ⟨by show 8 ≤ sizeLine; decide, fun p hp => ?_⟩
    refine ⟨_, rfl, _, _, rfl, rfl, .inr ⟨by decide, by decide⟩, _, rfl, _, _, rfl, rfl, .inr ⟨by decide, by decide⟩, _, _, rfl, rfl, _, rfl, _, _, rfl, rfl, ⟨by decide, by decide⟩, _, _, rfl, rfl, (by show (0 : Int) < 1000003; decide), _, _, rfl, rfl, .inr ⟨by decide, by decide⟩, _, _, rfl, rfl, ?_⟩
    obtain ⟨pr, e, hp0⟩ := prime_at (m := k % 8) (Int.emod_nonneg _ (by decide)) (Int.emod_lt_of_pos _ (by decide))
    refine ⟨_, rfl, _, rfl, _, rfl, _, _, rfl, rfl, (by show (0 : Int) < 8; decide), p, primes, _, _, rfl, rfl, SqT.of upd_same, e, _, _, rfl, rfl, hp0, _, rfl, _, _, rfl, rfl, hm, ?_⟩
    exact q _ _ (Int.emod_nonneg _ (by omega)) (Int.emod_lt_of_pos _ hm) (same_new hp)
end
end WR
namespace WR
open PySem L2
def spLaw (K : PySem.W.Frag) : Sp := fun vs H Q _ => ∃ (a : Addr) (ns : List Int), vs = [.ref a] ∧ SqL K H a (ns.map V.int) ∧ ns.length ≤ 63 ∧ ∀ H', Q (.bl true) H'
theorem same_upd {H H' : Hp} {p : Addr} {o : HO} (s : Same H H') (h : H p = none) : Same H (upd H' p o) := fun b u e => by rw [upd_ne (ne_of_none e h)]; exact s _ _ e
end WR
namespace WR
open PySem L2
/-! ### a tree's text -/
theorem log_small {i : Int} (h0 : 0 ≤ i) (h1 : i < 10 ^ 7) : i.natAbs.log2 < 1920 := by
  by_cases e : i.natAbs = 0
  · rw [e]; decide
  · have : i.natAbs < 2 ^ 24 := by have : (2 : Nat) ^ 24 = 16777216 := by decide
                                   omega
    have := (Nat.log2_lt e).mpr this
    omega
def rowT (r : Road) : Str := numT r.1 ++ ("-" : Str) ++ numT r.2.1 ++ (" " : Str) ++ numT r.2.2
def headT (n : Int) : Str := ("villages " : Str) ++ numT n
def textM (n : Int) (rs : List Road) : Str := PySem.Txt.join ("\n" : Str) (headT n :: rs.map rowT)
theorem len_app (x y : Str) : (x ++ y).length = x.length + y.length := Str.length_append x y
theorem numT_le {i : Int} (h0 : 0 ≤ i) (h1 : i < 10 ^ 7) : (numT i).length ≤ 7 := by
  obtain ⟨m, rfl⟩ := Int.eq_ofNat_of_zero_le h0
  rw [len_cps]
  exact (numT_len (by omega)).2
theorem rowT_le {r : Road} (h1 : 0 ≤ r.1 ∧ r.1 < 10 ^ 7) (h2 : 0 ≤ r.2.1 ∧ r.2.1 < 10 ^ 7) (h3 : 0 ≤ r.2.2 ∧ r.2.2 < 10 ^ 7) : (rowT r).length ≤ 23 := by
  unfold rowT
  rw [len_app, len_app, len_app, len_app]
  have := numT_le h1.1 h1.2
  have := numT_le h2.1 h2.2
  have := numT_le h3.1 h3.2
  have : ("-" : Str).length = 1 := by decide +kernel
  have : (" " : Str).length = 1 := by decide +kernel
  omega
theorem headT_le {n : Int} (h0 : 0 ≤ n) (h1 : n < 10 ^ 7) : (headT n).length ≤ 16 := by
  unfold headT
  rw [len_app]
  have := numT_le h0 h1
  have : ("villages " : Str).length = 9 := by decide +kernel
  omega
/-- all numbers of the roads are short -/
def Short (rs : List Road) : Prop := ∀ r ∈ rs, (0 ≤ r.1 ∧ r.1 < 10 ^ 7) ∧ (0 ≤ r.2.1 ∧ r.2.1 < 10 ^ 7) ∧ (0 ≤ r.2.2 ∧ r.2.2 < 10 ^ 7)
/-! ### a number's text -/
def optV : Option Int → V
  | some i => .int i
  | none => .non
def sp_number_of : Sp := fun vs H Q _ => ∃ x : Str, vs = [.str x] ∧ x.length ≤ 100000 ∧ ∀ H', Same H H' → Q (optV (numM x)) H'
theorem figs : ("0123456789" : Str).cps.toList = [48, 49, 50, 51, 52, 53, 54, 55, 56, 57] := by decide +kernel
theorem fig_in (c : Nat) : (!(Builtin.Str.occurrences ("0123456789" : Str) ⟨#[c]⟩ 0 ("0123456789" : Str).length 1).isEmpty) = decide (48 ≤ c ∧ c ≤ 57) := by
  rw [StrLaws.found_one, figs]
  rw [Bool.eq_iff_iff]
  simp only [decide_eq_true_eq, List.mem_cons, List.not_mem_nil, or_false]
  omega
def figB (c : Nat) : Bool := decide (48 ≤ c ∧ c ≤ 57)
section
variable {P : Program} {w : World} {K : PySem.W.Frag} {mg : Str → Option Value} {base : Heap} {t : Adr}
theorem ok_number_of (TT : Txt K mg t) : FnOk P w K mg base CX0 1 t.f_number_of t.d_number_of ["text"] sp_number_of := by
  refine TT.F_number_of.ok sc_number_of (fun vs H Q E h => ?_) (fun cdv A outer sh H vs Q E hr h => ?_)
  · obtain ⟨x, rfl, _⟩ := h
    rfl
  · obtain ⟨x, rfl, hl, k⟩ := h
    refine ⟨_, (pss_cons (ps_if (PW.pt (pw_or (pt_not (pt_chain op_le op_le pe_int (pe_callB call_len_str rfl TT.z_len WB.bt_len (pa_cons (pv 0) pa_nil)) (pe_glob (v := .int 7) rfl TT.g_MOST_FIGURES ⟨_, rfl⟩))) (pw_or1 (pt_not (pt_val (pe_callB (call_all rfl) rfl TT.z_all WB.bt_all (pa_cons (pe_comp rfl (N := ["sign"]) (fr := []) (compOk (N0 := ["text"]) (N := ["sign"]) (fr := []) (sc0 := defScope s_number_of) (n0 := 0) rfl ⟨rfl, rfl⟩ (by decide +kernel)) (pi_str (pv 0)) (fun _ _ _ _ _ => ⟨(pg_name (i := 0) (show (["sign"] : List Str).Nodup by decide +kernel) rfl (Or.inl rfl)), pf_none, (pe_cmpR op_in_str (pv 0) (pe_glob (v := .str "0123456789") rfl TT.g_FIGURES ⟨_, rfl⟩) (by with_unfolding_all rfl))⟩)) pa_nil))))))) (pss_one (ps_ret pe_non)) pss_nil) (pss_cons (ps_if (PW.pt (pw_and (pt_cmpR op_eq (pe_ix ix_str (pv 0) pe_int (fun _ _ => rfl)) pe_str (nomark _)) (pw_and1 (pt_cmpR op_ne (pv 0) pe_str (nomark _))))) (pss_one (ps_ret pe_non)) pss_nil) (pss_one (ps_ret (pe_callTy call_int_text rfl TT.z_int WB.bt_int (pa_cons (pv 0) pa_nil)))))), ?_⟩
    have hz : x.length ≤ sizeLine := by rw [sizeLine_eq]; omega
    have bad : ∀ H', Same H H' → numB x = false → Q .non H' := fun H' s e => by
      have := k H' s
      unfold numM at this
      rw [e] at this
      exact this
    -- 1 <= len(text) <= 7
    refine ⟨_, rfl, x, rfl, hz, _, _, rfl, rfl, _, rfl, ite2 (fun c1 => ?_) (fun c1 => ?_)⟩
    · have c1 : 1 ≤ x.length := by have : (1 : Int) ≤ x.length := by simpa using c1
                                   omega
      refine ⟨_, _, rfl, rfl, _, rfl, ?_⟩
      by_cases c2 : (x.length : Int) ≤ 7
      · refine ite_f (by simpa using c2) ?_
        -- all([sign in FIGURES for sign in text])
        refine ⟨_, rfl, x, rfl, fun acc hacc => comp_str (fun i τ ys H2 => (∃ v, τ = [v]) ∧ ys = ((x.cps.toList.take i).map figB).map V.bl ∧ H2 acc = some (.lst ys) ∧ Same H H2 ∧ i ≤ x.cps.size) ⟨⟨_, rfl⟩, rfl, upd_same, same_new hacc, Nat.zero_le _⟩
          (fun i τ ys H2 _ ⟨_, _, h3, _⟩ => h3) ?_ ?_⟩
        · rintro i c τ ys H2 R hi ⟨⟨v, rfl⟩, rfl, h3, h4, h5⟩ hR
          have hi' : x.cps.toList[i]? = some c := by rw [Array.getElem?_toList]; exact hi
          have hlt : i < x.cps.size := (Array.getElem?_eq_some_iff.mp hi).1
          refine noifN ?_
          refine ⟨_, rfl, ⟨#[c]⟩, ("0123456789" : Str), rfl, rfl, ?_⟩
          rw [fig_in]
          refine ⟨h3, ?_, hR _ _ _ ⟨⟨_, rfl⟩, ?_, upd_same, same_upd h4 hacc, hlt⟩⟩
          · rw [List.length_map, List.length_map, List.length_take, sizeLine_eq]
            have : x.cps.toList.length = x.cps.size := by simp
            have : x.length = x.cps.size := rfl
            omega
          · rw [List.take_add_one, hi']
            simp only [Option.toList_some, List.map_append, List.map_cons, List.map_nil]
            rfl
        · rintro τ ys H2 ⟨⟨v, rfl⟩, rfl, h3, h4, h5⟩
          rw [show (x.cps.toList.take x.cps.size) = x.cps.toList from List.take_of_length_le (by simp)] at h3
          refine ⟨acc, x.cps.toList.map figB, rfl, SqL.of h3, _, rfl, ?_⟩
          have al : (x.cps.toList.map figB).all id = x.cps.toList.all fun c => decide (48 ≤ c ∧ c ≤ 57) := by
            rw [List.all_map]; rfl
          rw [al]
          have nb : numB x = ((x.cps.toList.all fun c => decide (48 ≤ c ∧ c ≤ 57)) && !(decide (x.cps.toList.head? = some 48) && decide (x ≠ "0"))) := by
            unfold numB
            rw [decide_eq_true c1, decide_eq_true (show x.length ≤ 7 by omega)]
            rfl
          cases e3 : x.cps.toList.all fun c => decide (48 ≤ c ∧ c ≤ 57) with
          | false => exact iteT (bad H2 h4 (by rw [nb, e3]; rfl))
          | true =>
            refine iteF ?_
            -- if text[0] == '0' and text != '0'
            cases e4 : x.cps.toList with
            | nil => have := len_cps x; rw [e4] at this; simp at this; omega
            | cons c r =>
              have dig : PySem.NumText.AllDigits x.cps.toList := fun c hc => of_decide_eq_true (List.all_eq_true.mp e3 c hc)
              have hint := PySem.intText_digits dig (by rw [e4]; simp) (by omega)
              have good : numB x = true → Q (.int (PySem.NumText.digitsVal x.cps.toList : Nat)) H2 := fun e => by
                have := k H2 h4
                unfold numM at this
                rw [if_pos e] at this
                exact this
              refine ⟨_, rfl, x, 0, c, rfl, rfl, hz, by rw [e4]; exact atI_nat (j := 0) rfl, rfl, _, rfl, ?_⟩
              by_cases c48 : c = 48
              · subst c48
                refine ite_t (by decide +kernel) ⟨_, rfl, rfl, _, rfl, ?_⟩
                by_cases x0 : x = "0"
                · refine ite_f (by rw [x0]; decide +kernel) ?_
                  exact ⟨_, rfl, x, _, rfl, by omega, hint, good (by rw [nb, e3, x0]; decide +kernel)⟩
                · refine ite_t (by simpa using x0) (bad H2 h4 ?_)
                  rw [nb, e3, e4]
                  simp [x0]
              · have : (⟨#[c]⟩ : Str) ≠ "0" := fun z => by
                  have := congrArg (fun s => s.cps.toList) z
                  have e0 : ("0" : Str).cps.toList = [48] := by decide +kernel
                  simp only [e0] at this
                  exact c48 (List.cons.inj this).1
                refine ite_f (by simpa using this) ?_
                refine iteF ⟨_, rfl, x, _, rfl, by omega, hint, good ?_⟩
                rw [nb, e3, e4]
                simp [c48]
      · refine ite_t (by simpa using c2) (iteT (bad H (Same.refl H) ?_))
        unfold numB
        rw [decide_eq_false (show ¬ x.length ≤ 7 by omega)]
        simp
    · refine ⟨_, rfl, iteT (iteT (bad H (Same.refl H) ?_))⟩
      have : ¬ 1 ≤ x.length := fun z => c1 (decide_eq_true (by omega))
      unfold numB
      rw [decide_eq_false this]
      rfl
end
end WR
namespace WR
open PySem L2
/-! ### a text read -/
def villM (row : Str) : Option Int := match PySem.Txt.split row " " with
  | [a, b] => if a = "villages" ∧ b ≠ "0" then numM b else none
  | _ => none
def roadL (ps qs : List Str) : Option Road := match ps, qs with
  | [_, l], [a, b] => match numM a, numM b, numM l with
    | some i, some j, some k => some (i, j, k)
    | _, _, _ => none
  | _, _ => none
def roadM (row : Str) : Option Road := roadL (PySem.Txt.split row " ") (PySem.Txt.split ((PySem.Txt.split row " ").headD row) "-")
theorem part_le {x y a : Str} (h : a ∈ PySem.Txt.split x y) : a.length ≤ x.length := PyProof.Rows.part_short h
def sp_villages_of : Sp := fun vs H Q _ => ∃ x : Str, vs = [.str x] ∧ x.length ≤ 100000 ∧ ∀ H', Same H H' → Q (optV (villM x)) H'
def sp_road_of : Sp := fun vs H Q _ => ∃ x : Str, vs = [.str x] ∧ x.length ≤ 100000 ∧ ∀ H', Same H H' → (roadM x = none → Q .non H') ∧ ∀ r q, roadM x = some r → H q = none → H' q = some (.tup [.int r.1, .int r.2.1, .int r.2.2]) → Q (.ref q) H'
theorem flat_opt (a b c : Option Int) : ([optV a, optV b, optV c]).all flatV = true := by
  cases a <;> cases b <;> cases c <;> rfl
theorem none_in (a b c : Option Int) : inV .non [optV a, optV b, optV c] = (a.isNone || b.isNone || c.isNone) := by
  cases a <;> cases b <;> cases c <;> rfl
theorem blank_len : (((" " : Str).length) == 0) = false := by decide +kernel
theorem dash_len : (((("-" : Str)).length) == 0) = false := by decide +kernel
theorem line_len : (((("\n" : Str)).length) == 0) = false := by decide +kernel
section
variable {P : Program} {w : World} {K : PySem.W.Frag} {mg : Str → Option Value} {base : Heap} {t : Adr}
theorem ok_villages_of (TT : Txt K mg t) : FnOk P w K mg base CX0 2 t.f_villages_of t.d_villages_of ["row"] sp_villages_of := by
  refine TT.F_villages_of.ok sc_villages_of (fun vs H Q E h => ?_) (fun cdv A outer sh H vs Q E hr h => ?_)
  · obtain ⟨x, rfl, _⟩ := h
    rfl
  · obtain ⟨x, rfl, hl, k⟩ := h
    refine ⟨_, (pss_cons (ps_set (i := 1) sc_villages_of.nd rfl (Or.inl rfl) (pe_bm PySem.F.plainAttrs_str PySem.F.slot_str_split PySem.F.type_str_split mt_split (pv 0) (pa_consC pe_str pa_nil))) (pss_cons (ps_if (PW.pt (pw_or (pt_cmpR op_ne (pe_callB call_len_seq rfl TT.z_len WB.bt_len (pa_cons (pv 1) pa_nil)) pe_int (nomark _)) (pw_or (pt_cmpR op_ne (pe_ix ix_list (pv 1) pe_int (fun _ _ => rfl)) pe_str (nomark _)) (pw_or1 (pt_cmpR op_eq (pe_ix ix_list (pv 1) pe_int (fun _ _ => rfl)) pe_str (nomark _)))))) (pss_one (ps_ret pe_non)) pss_nil) (pss_one (ps_ret (pe_call (ok_number_of TT) (hr.mono (by decide)) rfl TT.m_number_of TT.F_number_of.kp TT.b_number_of .nil pass0 (pa_cons (pe_ix ix_list (pv 1) pe_int (fun _ _ => rfl)) pa_nil)))))), ?_⟩
    refine ⟨_, rfl, rfl, x, (" " : Str), rfl, rfl, blank_len, by rw [sizeLine_eq]; omega, fun l hl0 => ?_⟩
    have s1 := same_new (o := .lst ((PySem.Txt.split x " ").map V.str)) hl0
    have hls : upd H l (.lst ((PySem.Txt.split x " ").map V.str)) l = some (.lst ((PySem.Txt.split x " ").map V.str)) := upd_same
    have k1 := fun H' s' => k H' (s1.trans s')
    have pl : ∀ a ∈ PySem.Txt.split x " ", a.length ≤ x.length := fun a ha => part_le ha
    unfold villM at k1
    generalize upd H l (.lst ((PySem.Txt.split x " ").map V.str)) = H1 at *
    generalize PySem.Txt.split x " " = ps at *
    refine ⟨_, rfl, l, _, rfl, .inl (SqL.of hls), rfl, _, rfl, ?_⟩
    match ps, hls, k1, pl with
    | [], _, k1, _ => exact iteT (iteT (k1 _ (Same.refl _)))
    | [a], _, k1, _ => exact iteT (iteT (k1 _ (Same.refl _)))
    | a :: b :: c :: r, _, k1, _ =>
      refine ite_t ?_ (iteT (k1 _ (Same.refl _)))
      have : ((List.map V.str (a :: b :: c :: r)).length : Int) ≠ 2 := by simp only [List.length_map, List.length_cons]; omega
      simpa using this
    | [a, b], hls, k1, pl =>
      refine iteF ⟨_, rfl, l, _, 0, .str a, rfl, rfl, SqL.of hls, atI_nat (j := 0) rfl, rfl, _, rfl, ?_⟩
      by_cases ca : a = "villages"
      · refine ite_f (by rw [ca]; decide +kernel) ⟨_, rfl, l, _, 1, .str b, rfl, rfl, SqL.of hls, atI_nat (j := 1) rfl, rfl, _, rfl, ?_⟩
        by_cases cb : b = "0"
        · refine ite_t (by rw [cb]; decide +kernel) ?_
          have := k1 _ (Same.refl _)
          simp only [cb, ne_eq, not_true_eq_false, and_false, if_false] at this
          exact this
        · refine ite_f (by simpa using cb) ⟨_, rfl, l, _, 1, .str b, rfl, rfl, SqL.of hls, atI_nat (j := 1) rfl, b, rfl, ?_, fun H' s' => ?_⟩
          · have := pl b (by simp); omega
          · have := k1 H' s'
            simp only [if_pos (show a = "villages" ∧ b ≠ "0" from ⟨ca, cb⟩)] at this
            exact this
      · refine ite_t (by simpa using ca) (iteT ?_)
        have := k1 _ (Same.refl _)
        simp only [if_neg (show ¬ (a = "villages" ∧ b ≠ "0") from fun z => ca z.1)] at this
        exact this
theorem ok_road_of (TT : Txt K mg t) : FnOk P w K mg base CX0 2 t.f_road_of t.d_road_of ["row"] sp_road_of := by
  refine TT.F_road_of.ok sc_road_of (fun vs H Q E h => ?_) (fun cdv A outer sh H vs Q E hr h => ?_)
  · obtain ⟨x, rfl, _⟩ := h
    rfl
  · obtain ⟨x, rfl, hl, k⟩ := h
    refine ⟨_, (pss_cons (ps_set (i := 1) sc_road_of.nd rfl (Or.inl rfl) (pe_bm PySem.F.plainAttrs_str PySem.F.slot_str_split PySem.F.type_str_split mt_split (pv 0) (pa_consC pe_str pa_nil))) (pss_cons (ps_set (i := 2) sc_road_of.nd rfl (Or.inl rfl) (pe_bm PySem.F.plainAttrs_str PySem.F.slot_str_split PySem.F.type_str_split mt_split (pe_ix ix_list (pv 1) pe_int (fun _ _ => rfl)) (pa_consC pe_str pa_nil))) (pss_cons (ps_if (PW.pt (pw_or (pt_cmpR op_ne (pe_callB call_len_seq rfl TT.z_len WB.bt_len (pa_cons (pv 1) pa_nil)) pe_int (nomark _)) (pw_or1 (pt_cmpR op_ne (pe_callB call_len_seq rfl TT.z_len WB.bt_len (pa_cons (pv 2) pa_nil)) pe_int (nomark _))))) (pss_one (ps_ret pe_non)) pss_nil) (pss_cons (ps_set (i := 3) sc_road_of.nd rfl (Or.inl rfl) (pe_lst (pa_cons (pe_call (ok_number_of TT) (hr.mono (by decide)) rfl TT.m_number_of TT.F_number_of.kp TT.b_number_of .nil pass0 (pa_cons (pe_ix ix_list (pv 2) pe_int (fun _ _ => rfl)) pa_nil)) (pa_cons (pe_call (ok_number_of TT) (hr.mono (by decide)) rfl TT.m_number_of TT.F_number_of.kp TT.b_number_of .nil pass0 (pa_cons (pe_ix ix_list (pv 2) pe_int (fun _ _ => rfl)) pa_nil)) (pa_cons (pe_call (ok_number_of TT) (hr.mono (by decide)) rfl TT.m_number_of TT.F_number_of.kp TT.b_number_of .nil pass0 (pa_cons (pe_ix ix_list (pv 1) pe_int (fun _ _ => rfl)) pa_nil)) pa_nil))))) (pss_one (ps_ret (pe_ifExp (pt_cmpR op_in_seq pe_non (pv 3) (by with_unfolding_all rfl)) pe_non (pe_callTy call_tuple_of rfl TT.z_tuple WB.bt_tuple (pa_cons (pv 3) pa_nil))))))))), ?_⟩
    -- parts, ends
    refine ⟨_, rfl, rfl, x, (" " : Str), rfl, rfl, blank_len, by rw [sizeLine_eq]; omega, fun l hl0 => ?_⟩
    have hne := split_ne x " "
    have pl : ∀ a ∈ PySem.Txt.split x " ", a.length ≤ x.length := fun a ha => part_le ha
    unfold roadM at k
    generalize PySem.Txt.split x " " = ps at *
    have s1 := same_new (o := .lst (ps.map V.str)) hl0
    obtain ⟨p, ps', rfl⟩ : ∃ p ps', ps = p :: ps' := by cases ps with | nil => exact absurd rfl hne | cons p r => exact ⟨p, r, rfl⟩
    have lp := pl p (by simp)
    rw [List.headD_cons] at k
    refine ⟨_, rfl, l, _, 0, .str p, rfl, rfl, SqL.of upd_same, atI_nat (j := 0) rfl, rfl, p, ("-" : Str), rfl, rfl, dash_len, by rw [sizeLine_eq]; omega, fun e he0 => ?_⟩
    have ql : ∀ a ∈ PySem.Txt.split p "-", a.length ≤ p.length := fun a ha => part_le ha
    generalize PySem.Txt.split p "-" = qs at *
    have s2 : Same H (upd (upd H l (.lst ((p :: ps').map V.str))) e (.lst (qs.map V.str))) := s1.trans (same_new he0)
    have hle : l ≠ e := fun z => by subst z; rw [upd_same] at he0; cases he0
    have hl2 : upd (upd H l (.lst ((p :: ps').map V.str))) e (.lst (qs.map V.str)) l = some (.lst ((p :: ps').map V.str)) := by rw [upd_ne hle, upd_same]
    have he2 : upd (upd H l (.lst ((p :: ps').map V.str))) e (.lst (qs.map V.str)) e = some (.lst (qs.map V.str)) := upd_same
    generalize upd (upd H l (.lst ((p :: ps').map V.str))) e (.lst (qs.map V.str)) = H2 at s2 hl2 he2
    refine ⟨_, rfl, l, _, rfl, .inl (SqL.of hl2), rfl, _, rfl, ?_⟩
    match ps', hl2, k, pl with
    | [], _, k, _ => exact iteT (iteT ((k H2 s2).1 rfl))
    | b :: c :: r, _, k, _ =>
      refine ite_t ?_ (iteT ((k H2 s2).1 rfl))
      have : ((List.map V.str (p :: b :: c :: r)).length : Int) ≠ 2 := by simp only [List.length_map, List.length_cons]; omega
      simpa using this
    | [d], hl2, k, pl =>
      refine iteF ⟨_, rfl, e, _, rfl, .inl (SqL.of he2), rfl, _, rfl, ?_⟩
      match qs, he2, k, ql with
      | [], _, k, _ => exact iteT ((k H2 s2).1 rfl)
      | [a], _, k, _ => exact iteT ((k H2 s2).1 rfl)
      | a :: b :: c :: r, _, k, _ =>
        refine ite_t ?_ ((k H2 s2).1 rfl)
        have : ((List.map V.str (a :: b :: c :: r)).length : Int) ≠ 2 := by simp only [List.length_map, List.length_cons]; omega
        simpa using this
      | [a, b], he2, k, ql =>
        have la := ql a (by simp)
        have lb := ql b (by simp)
        have ld := pl d (by simp)
        -- numbers
        refine iteF ⟨_, rfl, e, _, 0, .str a, rfl, rfl, SqL.of he2, atI_nat (j := 0) rfl, a, rfl, by omega, fun H3 s3 => ?_⟩
        refine ⟨_, rfl, e, _, 1, .str b, rfl, rfl, SqL.of (s3 _ _ he2), atI_nat (j := 1) rfl, b, rfl, by omega, fun H4 s4 => ?_⟩
        refine ⟨_, rfl, l, _, 1, .str d, rfl, rfl, SqL.of (s4 _ _ (s3 _ _ hl2)), atI_nat (j := 1) rfl, d, rfl, by omega, fun H5 s5 => ⟨by show 3 ≤ sizeLine; decide, fun m hm => ?_⟩⟩
        have s15 := ((s2.trans s3).trans s4).trans s5
        have s16 : Same H (upd H5 m (.lst [optV (numM a), optV (numM b), optV (numM d)])) := s15.trans (same_new hm)
        have hm6 : upd H5 m (.lst [optV (numM a), optV (numM b), optV (numM d)]) m = some (.lst [optV (numM a), optV (numM b), optV (numM d)]) := upd_same
        generalize upd H5 m (.lst [optV (numM a), optV (numM b), optV (numM d)]) = H6 at s16 hm6
        refine ⟨_, rfl, m, _, rfl, .inl (SqL.of hm6), rfl, flat_opt _ _ _, _, rfl, ?_⟩
        have k6 := fun H' s' => k H' (s16.trans s')
        rw [show (if false = true then !inV .non [optV (numM a), optV (numM b), optV (numM d)] else inV .non [optV (numM a), optV (numM b), optV (numM d)]) = inV .non [optV (numM a), optV (numM b), optV (numM d)] from rfl, none_in]
        unfold roadL at k6
        simp only at k6
        generalize numM a = oa at *
        generalize numM b = ob at *
        generalize numM d = od at *
        match oa, ob, od, hm6, k6 with
        | none, _, _, _, k6 => exact iteT ((k6 H6 (Same.refl _)).1 rfl)
        | some i, none, _, _, k6 => exact iteT ((k6 H6 (Same.refl _)).1 rfl)
        | some i, some j, none, _, k6 => exact iteT ((k6 H6 (Same.refl _)).1 rfl)
        | some i, some j, some n, hm6, k6 =>
          refine iteF ⟨_, rfl, m, _, rfl, .inl ⟨SqL.of hm6, fun q hq => ?_⟩⟩
          exact (k6 _ (same_new hq)).2 (i, j, n) q rfl (s16.free hq) upd_same
end
/-! ### what is written is read -/
theorem blank_is : (" " : Str) = ⟨#[32]⟩ := by decide +kernel
theorem dash_is : ("-" : Str) = ⟨#[45]⟩ := by decide +kernel
theorem line_is : ("\n" : Str) = ⟨#[10]⟩ := by decide +kernel
theorem vills_is : ("villages " : Str) = ("villages" : Str) ++ (⟨#[32]⟩ : Str) := by decide +kernel
theorem str_assoc (x y z : Str) : x ++ y ++ z = x ++ (y ++ z) := cps_inj (by simp only [cps_append, List.append_assoc])
theorem villM_head {n : Nat} (h : n < 10 ^ 7) (h0 : n ≠ 0) : villM (headT n) = some (n : Int) := by
  have e : PySem.Txt.split (headT n) " " = [("villages" : Str), numT n] := by
    unfold headT
    rw [vills_is, blank_is]
    exact split_two (by decide +kernel) (numT_free (by decide))
  unfold villM
  rw [e]
  have nz : numT n ≠ "0" := fun z => by
    have e1 := numM_numT h
    rw [z] at e1
    have e2 : numM ("0" : Str) = some 0 := by decide +kernel
    rw [e2] at e1
    have := Option.some.inj e1
    omega
  show (if ("villages" : Str) = "villages" ∧ numT n ≠ "0" then numM (numT n) else none) = _
  rw [if_pos ⟨rfl, nz⟩, numM_numT h]
theorem numM_T {i : Int} (h0 : 0 ≤ i) (h1 : i < 10 ^ 7) : numM (numT i) = some i := by
  obtain ⟨m, rfl⟩ := Int.eq_ofNat_of_zero_le h0
  exact numM_numT (by omega)
theorem numT_no {i : Int} {c : Nat} (h0 : 0 ≤ i) (h : c < 48) : c ∉ (numT i).cps.toList := by
  obtain ⟨m, rfl⟩ := Int.eq_ofNat_of_zero_le h0
  exact numT_free h
theorem mem_app {x y : Str} {c : Nat} : c ∈ (x ++ y).cps.toList ↔ c ∈ x.cps.toList ∨ c ∈ y.cps.toList := by rw [cps_append, List.mem_append]
theorem roadM_row {r : Road} (h1 : 0 ≤ r.1 ∧ r.1 < 10 ^ 7) (h2 : 0 ≤ r.2.1 ∧ r.2.1 < 10 ^ 7) (h3 : 0 ≤ r.2.2 ∧ r.2.2 < 10 ^ 7) : roadM (rowT r) = some r := by
  obtain ⟨a, b, l⟩ := r
  have e1 : PySem.Txt.split (rowT (a, b, l)) " " = [numT a ++ ("-" : Str) ++ numT b, numT l] := by
    unfold rowT
    rw [blank_is]
    refine split_two (fun z => ?_) (numT_no h3.1 (by decide))
    rcases mem_app.mp z with z | z
    · rcases mem_app.mp z with z | z
      · exact numT_no h1.1 (by decide) z
      · exact absurd z (by decide +kernel)
    · exact numT_no h2.1 (by decide) z
  have e2 : PySem.Txt.split (numT a ++ ("-" : Str) ++ numT b) "-" = [numT a, numT b] := by
    rw [dash_is]
    exact split_two (numT_no h1.1 (by decide)) (numT_no h2.1 (by decide))
  unfold roadM
  rw [e1, List.headD_cons, e2]
  show (match numM (numT a), numM (numT b), numM (numT l) with | some i, some j, some k => some (i, j, k) | _, _, _ => none) = _
  rw [numM_T h1.1 h1.2, numM_T h2.1 h2.2, numM_T h3.1 h3.2]
theorem rowT_line {r : Road} (h1 : 0 ≤ r.1) (h2 : 0 ≤ r.2.1) (h3 : 0 ≤ r.2.2) : 10 ∉ (rowT r).cps.toList := fun z => by
  unfold rowT at z
  rcases mem_app.mp z with z | z
  · rcases mem_app.mp z with z | z
    · rcases mem_app.mp z with z | z
      · rcases mem_app.mp z with z | z
        · exact numT_no h1 (by decide) z
        · exact absurd z (by decide +kernel)
      · exact numT_no h2 (by decide) z
    · exact absurd z (by decide +kernel)
  · exact numT_no h3 (by decide) z
theorem headT_line {n : Int} (h : 0 ≤ n) : 10 ∉ (headT n).cps.toList := fun z => by
  unfold headT at z
  rcases mem_app.mp z with z | z
  · exact absurd z (by decide +kernel)
  · exact numT_no h (by decide) z
theorem cut_tail (x : V) (xs : List V) : cutV (x :: xs) (some 1) none = xs := by
  unfold cutV
  rw [show (1 : Int) = ((1 : Nat) : Int) from rfl, HT.sIx_nat]
  show List.take (HT.sIx (x :: xs).length (x :: xs).length none - min 1 (x :: xs).length) (List.drop (min 1 (x :: xs).length) (x :: xs)) = xs
  have : min 1 (x :: xs).length = 1 := by simp only [List.length_cons]; omega
  rw [this]
  show List.take ((x :: xs).length - 1) xs = xs
  exact List.take_of_length_le (by simp)
end WR
namespace WR
open PySem L2
/-! ### a text that may not be read: the row's number -/
def firstN : List (Option Road) → Option Nat
  | [] => none
  | none :: _ => some 0
  | some _ :: r => (firstN r).map (· + 1)
theorem firstN_none : ∀ {os : List (Option Road)}, firstN os = none → ∃ rs : List Road, os = rs.map some
  | [], _ => ⟨[], rfl⟩
  | none :: _, h => by cases h
  | some r :: os, h => by
    have h : (firstN os).map (· + 1) = none := h
    obtain ⟨rs, e⟩ := firstN_none (Option.map_eq_none_iff.mp h)
    exact ⟨r :: rs, by rw [e]; rfl⟩
theorem firstN_some : ∀ {os : List (Option Road)} {i : Nat}, firstN os = some i → os[i]? = some none ∧ ∀ m, m < i → os[m]? ≠ some none
  | [], _, h => by cases h
  | none :: _, i, h => by
    cases h
    exact ⟨rfl, fun m hm => absurd hm (by omega)⟩
  | some r :: os, i, h => by
    have h : (firstN os).map (· + 1) = some i := h
    obtain ⟨j, e, rfl⟩ := Option.map_eq_some_iff.mp h
    obtain ⟨h1, h2⟩ := firstN_some e
    refine ⟨h1, fun m hm => ?_⟩
    cases m with
    | zero => intro z; cases z
    | succ m => exact h2 m (by omega)
open Classical in
noncomputable def refL (rows : List Str) : Int := match rows with
  | [] => 0
  | h :: rest => match villM h with
    | none => 1
    | some v => match firstN (rest.map roadM) with
      | some i => (i : Int) + 2
      | none => if IsTree v (rest.filterMap roadM) then 0 else (rest.length : Int) + 2
noncomputable def refM (x : Str) : Int := refL (PySem.Txt.split x "\n")
theorem refL_head {h : Str} {rest : List Str} (e : villM h = none) : refL (h :: rest) = 1 := by
  unfold refL
  simp only [e]
theorem refL_row {h : Str} {rest : List Str} {v : Int} {i : Nat} (e : villM h = some v) (f : firstN (rest.map roadM) = some i) : refL (h :: rest) = (i : Int) + 2 := by
  unfold refL
  simp only [e, f]
theorem filter_all {rest : List Str} {rs : List Road} (e : rest.map roadM = rs.map some) : rest.filterMap roadM = rs := by
  rw [show rest.filterMap roadM = (rest.map roadM).filterMap id by rw [List.filterMap_map]; rfl, e, List.filterMap_map]
  simp
theorem firstN_all (rs : List Road) : firstN (rs.map some) = none := by
  induction rs with
  | nil => rfl
  | cons r t ih => show (firstN (t.map some)).map _ = none; rw [ih]; rfl
theorem refL_tree {h : Str} {rest : List Str} {v : Int} {rs : List Road} (e : villM h = some v) (f : rest.map roadM = rs.map some) (hT : IsTree v rs) : refL (h :: rest) = 0 := by
  unfold refL
  simp only [e, f, firstN_all]
  rw [filter_all f, if_pos hT]
theorem refL_no {h : Str} {rest : List Str} {v : Int} {rs : List Road} (e : villM h = some v) (f : rest.map roadM = rs.map some) (hT : ¬ IsTree v rs) : refL (h :: rest) = (rest.length : Int) + 2 := by
  unfold refL
  simp only [e, f, firstN_all]
  rw [filter_all f, if_neg hT]
/-- what stands for a row's road -/
def OR (H : Hp) (v : V) : Option Road → Prop
  | none => v = .non
  | some r => ∃ a, v = .ref a ∧ H a = some (.tup [.int r.1, .int r.2.1, .int r.2.2])
theorem OR.froz {H H' : Hp} {v : V} {o : Option Road} (h : OR H v o) (k : ∀ c ws, H c = some (.tup ws) → H' c = some (.tup ws)) : OR H' v o := by
  cases o with
  | none => exact h
  | some r => obtain ⟨a, e, ha⟩ := h; exact ⟨a, e, k _ _ ha⟩
theorem reps_of {H : Hp} : ∀ {ys : List V} {rs : List Road}, ys.length = rs.length → (∀ (j : Nat) v, ys[j]? = some v → ∃ o, (rs.map some)[j]? = some o ∧ OR H v o) → Reps H ys (rs.map roadD)
  | [], [], _, _ => .nil
  | [], _ :: _, h, _ => by simp at h
  | _ :: _, [], h, _ => by simp at h
  | y :: ys, r :: rs, h, k => by
    obtain ⟨o, e, hr⟩ := k 0 y rfl
    cases Option.some.inj e
    obtain ⟨a, rfl, ha⟩ := hr
    exact .cons (roadD_mk ha) (reps_of (by simpa using h) fun j v hj => k (j + 1) v hj)
def sp_BadRow_init (C : Addr) : Sp := fun vs H Q _ => ∃ (a : Addr) (v : V), vs = [.ref a, v] ∧ H a = some (excN a C none) ∧ ∀ d, H d = none → d ≠ a → Q .non (upd (upd H a (excN a C (some d))) d (.xd [("row", v)]))
theorem raise_row {B : Addr} {E : XK} {H H1 : Hp} {r : Int} (s : Same H H1) (kx : ∀ d H', H d = none → Same H H' → H' d = some (.xd [("row", .int r)]) → E (.ref B) (some d) H') :
    ∀ a, H1 a = none → sp_BadRow_init B (.ref a :: [.int r]) (upd H1 a (excN a B none)) (fun v H2 => v = .non ∧ ∃ dx, H2 a = some (excN a B dx) ∧ E (.ref B) dx (del H2 a)) E0 := fun a ha =>
  ⟨a, .int r, rfl, upd_same, fun d hd hda => by
    have hd1 : H1 d = none := by rw [upd_ne hda] at hd; exact hd
    refine ⟨rfl, some d, by rw [upd_ne hda.symm, upd_same], ?_⟩
    rw [upd_upd, del_upd ha hda]
    exact kx d _ (s.free hd1) (s.trans (same_new hd1)) upd_same⟩
def spx_read (C B : Addr) : Sp := fun vs H Q E => ∃ x : Str, vs = [.str x] ∧ x.length ≤ 100000 ∧ (PySem.Txt.split x "\n").length ≤ 100 ∧ (refM x = 0 → ∀ y H', Same H H' → Q (.ref y) H') ∧
  (refM x ≠ 0 → ∀ d H', H d = none → Same H H' → H' d = some (.xd [("row", .int (refM x))]) → E (.ref B) (some d) H')
section
variable {P : Program} {w : World} {K : PySem.W.Frag} {mg : Str → Option Value} {base : Heap} {t : Adr}
theorem ok_BadRow_init (TT : Txt K mg t) : FnOk P w K mg base CX0 1 t.f_BadRow_init t.d_BadRow_init ["self", "row"] (sp_BadRow_init t.C_BadRow) := by
  refine TT.F_BadRow_init.ok sc_BadRow_init (fun vs H Q E h => ?_) (fun cdv A outer sh H vs Q E hr h => ?_)
  · obtain ⟨a, v, rfl, _⟩ := h
    rfl
  · obtain ⟨a, v, rfl, ha, k⟩ := h
    refine ⟨_, (pss_one (ps_fldX (pv 0) (pv 1) rfl)), ?_⟩
    exact ⟨_, rfl, _, rfl, a, t.C_BadRow, rfl, ha, TT.XS_BadRow_row, fun d hd hda => k d hd hda⟩
theorem okx_read (TT : Txt K mg t) : FnOk P w K mg base (CXE P w base) 7 t.f_read t.d_read ["text"] (spx_read t.C_Tree t.C_BadRow) := by
  refine TT.F_read.okE sc_read (fun vs H Q E h => ?_) (fun cdv A outer sh H vs Q E hr h => ?_)
  · obtain ⟨x, rfl, _⟩ := h
    rfl
  · obtain ⟨x, rfl, hx, hr100, k, kx⟩ := h
    have hu := hu_of hr
    refine ⟨_, (pss_cons (ps_set (i := 1) sc_read.nd rfl (Or.inl rfl) (pe_bm PySem.F.plainAttrs_str PySem.F.slot_str_split PySem.F.type_str_split mt_split (pv 0) (pa_consC pe_str pa_nil))) (pss_cons (ps_set (i := 2) sc_read.nd rfl (Or.inl rfl) (pe_call (ok_villages_of TT) (hr.mono (by decide)) rfl TT.m_villages_of TT.F_villages_of.kp TT.b_villages_of .nil pass0 (pa_cons (pe_ix ix_list (pv 1) pe_int (fun _ _ => rfl)) pa_nil))) (pss_cons (ps_if (pt_cmp (pc_isN (pv 2))) (pss_one (ps_raiseI raiseIE rfl rfl rfl TT.m_BadRow TT.XM_BadRow (ok_BadRow_init TT) (hr.mono (by decide)) TT.b_BadRow_init (pa_consC pe_int pa_nil))) pss_nil) (pss_cons (ps_setC (i := 3) sc_read.nd rfl rfl rfl (N := ["row"]) (fr := []) (compOk (N0 := ["text", "rows", "villages", "roads"]) (N := ["row"]) (fr := []) (sc0 := defScope s_read) (n0 := 0) rfl ⟨rfl, rfl⟩ (by decide +kernel)) (pi_list (pe_slice sl_list (pv 1) (po_some pe_int) po_none)) (fun _ _ _ _ _ => ⟨(pg_name (i := 0) (show (["row"] : List Str).Nodup by decide +kernel) rfl (Or.inl rfl)), pf_none, (pe_call (ok_road_of TT) (hr.mono (by decide)) rfl TT.m_road_of TT.F_road_of.kp TT.b_road_of .nil pass0 (pa_cons (pv 0) pa_nil))⟩)) (pss_cons (ps_if (pt_cmpR (op_noneIn hu) pe_non (pv 3) (by with_unfolding_all rfl)) (pss_one (ps_raiseI raiseIE rfl rfl rfl TT.m_BadRow TT.XM_BadRow (ok_BadRow_init TT) (hr.mono (by decide)) TT.b_BadRow_init (pa_consB (pe_op op_add (pe_bm PySem.F.plainAttrs_list PySem.F.slot_list_index PySem.F.type_list_index (mt_index hu) (pv 3) (pa_consC pe_non pa_nil)) pe_int) pa_nil))) pss_nil) (pss_cons (ps_if (pt_not (pt_val (pe_call (ok_is_tree TT) (hr.mono (by decide)) rfl TT.m_is_tree TT.F_is_tree.kp TT.b_is_tree .nil pass0 (pa_cons (pv 2) (pa_cons (pv 3) pa_nil))))) (pss_one (ps_raiseI raiseIE rfl rfl rfl TT.m_BadRow TT.XM_BadRow (ok_BadRow_init TT) (hr.mono (by decide)) TT.b_BadRow_init (pa_consB (pe_op op_add (pe_callB call_len_seq rfl TT.z_len WB.bt_len (pa_cons (pv 1) pa_nil)) pe_int) pa_nil))) pss_nil) (pss_one (ps_ret (pe_make TT.M_Tree (ok_Tree_init TT) (hr.mono (by decide)) rfl TT.m_Tree TT.b_Tree_init .nil pass0 (pa_cons (pv 2) (pa_cons (pv 3) pa_nil))))))))))), ?_⟩
    -- rows = text.split('\n')
    refine ⟨_, rfl, rfl, x, ("\n" : Str), rfl, rfl, line_len, by rw [sizeLine_eq]; omega, fun l hl0 => ?_⟩
    have hsz := fun a (h : a ∈ PySem.Txt.split x "\n") => Nat.le_trans (part_le h) hx
    have em : refM x = refL (PySem.Txt.split x "\n") := rfl
    have hne := split_ne x "\n"
    generalize PySem.Txt.split x "\n" = rows at hsz em hne hr100
    obtain ⟨r0, rest, rfl⟩ := List.exists_cons_of_ne_nil hne
    have s1 := same_new (o := .lst ((r0 :: rest).map V.str)) hl0
    have hl1 : upd H l (.lst ((r0 :: rest).map V.str)) l = some (.lst ((r0 :: rest).map V.str)) := upd_same
    generalize upd H l (.lst ((r0 :: rest).map V.str)) = H1 at s1 hl1
    rw [List.length_cons] at hr100
    -- villages = villages_of(rows[0])
    refine ⟨_, rfl, l, _, 0, .str r0, rfl, rfl, SqL.of hl1, atI_nat (j := 0) rfl, r0, rfl, hsz r0 (List.mem_cons_self ..), fun H2 s2 => ?_⟩
    cases ev : villM r0 with
    | none =>
      rw [refL_head ev] at em
      refine ⟨_, rfl, _, rfl, ite_t (by rfl) ?_⟩
      rw [em] at kx
      exact ⟨by show 1 ≤ sizeLine; decide, raise_row (s1.trans s2) (kx (by decide))⟩
    | some v =>
    refine ⟨_, rfl, _, rfl, ite_f (by rfl) ?_⟩
    -- roads = [road_of(row) for row in rows[1:]]
    have hl2 := s2 _ _ hl1
    refine ⟨_, rfl, 1, rfl, l, _, rfl, SqL.of hl2, fun c hc => ?_⟩
    rw [show cutV ((r0 :: rest).map V.str) (some 1) none = rest.map V.str from cut_tail _ _]
    have s3 : Same H1 (upd H2 c (.lst (rest.map V.str))) := s2.trans (same_new hc)
    have hc3 : upd H2 c (.lst (rest.map V.str)) c = some (.lst (rest.map V.str)) := upd_same
    generalize upd H2 c (.lst (rest.map V.str)) = H3 at s3 hc3
    refine ⟨c, rfl, ⟨_, SqL.of hc3⟩, fun acc hacc => comp_list (K := K) (xs := rest.map V.str) (fun i τ ys H4 => (∃ o, τ = [o]) ∧ (ys.length = i ∧ i ≤ rest.length ∧ ∀ (j : Nat) v, ys[j]? = some v → ∃ o, (rest.map roadM)[j]? = some o ∧ OR H4 v o) ∧ H4 acc = some (.lst ys) ∧ Same H3 H4)
      ⟨⟨_, rfl⟩, ⟨rfl, Nat.zero_le _, fun j v h => by cases j <;> cases h⟩, upd_same, same_new hacc⟩
      (fun i τ ys H4 _ ⟨_, _, h3, h4⟩ => ⟨SqL.of (h4 _ _ hc3), h3⟩) ?_ ?_⟩
    · rintro i z τ ys H4 R hi ⟨⟨o, rfl⟩, ⟨hy1, hy2, hy3⟩, h3, h4⟩ hR
      have hiR : i < rest.length := by have := (List.getElem?_eq_some_iff.mp hi).1; simpa using this
      rw [List.getElem?_map, List.getElem?_eq_getElem hiR] at hi
      have ez : z = .str rest[i] := (Option.some.inj hi).symm
      subst ez
      have ei : (rest.map roadM)[i]? = some (roadM rest[i]) := by rw [List.getElem?_map, List.getElem?_eq_getElem hiR]; rfl
      have fin : ∀ (v : V) H5, Same H4 H5 → OR H5 v (roadM rest[i]) → H5 acc = some (.lst ys) ∧ ys.length + 1 ≤ sizeLine ∧ ((∃ o : Option V, [some (V.str rest[i])] = [o]) ∧ ((ys ++ [v]).length = i + 1 ∧ i + 1 ≤ rest.length ∧ ∀ (j : Nat) v', (ys ++ [v])[j]? = some v' → ∃ o, (rest.map roadM)[j]? = some o ∧ OR (upd H5 acc (.lst (ys ++ [v]))) v' o) ∧ upd H5 acc (.lst (ys ++ [v])) acc = some (.lst (ys ++ [v])) ∧ Same H3 (upd H5 acc (.lst (ys ++ [v])))) := fun v H5 s5 ho => by
        have hat := s5 _ _ h3
        have hfz : ∀ c ws, H5 c = some (.tup ws) → upd H5 acc (.lst (ys ++ [v])) c = some (.tup ws) := fun c ws e => by
          rw [upd_ne (ne_of e hat (by intro z; cases z))]; exact e
        refine ⟨hat, by rw [sizeLine_eq]; omega, ⟨_, rfl⟩, ⟨by simp [hy1], hiR, fun j v' hj => ?_⟩, upd_same, fun b o e => ?_⟩
        · by_cases hjl : j < ys.length
          · rw [List.getElem?_append_left hjl] at hj
            obtain ⟨o, e1, e2⟩ := hy3 j v' hj
            exact ⟨o, e1, e2.froz fun c ws e => hfz _ _ (s5 _ _ e)⟩
          · have hjl' : j = ys.length := by
              have := (List.getElem?_eq_some_iff.mp hj).1
              simp at this
              omega
            subst hjl'
            rw [List.getElem?_append_right (Nat.le_refl _), Nat.sub_self] at hj
            cases hj
            rw [hy1]
            exact ⟨_, ei, ho.froz hfz⟩
        · rw [upd_ne (ne_of_none e hacc)]; exact s5 _ _ (h4 _ _ e)
      refine noifN ?_
      refine ⟨_, rfl, rest[i], rfl, hsz _ (List.mem_cons_of_mem _ (List.getElem_mem _)), fun H5 s5 => ⟨fun e => ?_, fun r' tp e htp ht => ?_⟩⟩
      · obtain ⟨f1, f2, f3⟩ := fin .non H5 s5 (by rw [e]; exact rfl)
        exact ⟨f1, f2, hR _ _ _ f3⟩
      · obtain ⟨f1, f2, f3⟩ := fin (.ref tp) H5 s5 (by rw [e]; exact ⟨tp, rfl, ht⟩)
        exact ⟨f1, f2, hR _ _ _ f3⟩
    · rintro τ ys H4 ⟨⟨o, rfl⟩, ⟨hy1, _, hy3⟩, h3, h4⟩
      rw [List.length_map] at hy1
      have s14 := (s1.trans s3).trans h4
      have hl4 := h4 _ _ (s3 _ _ hl1)
      -- if None in roads
      refine ⟨_, rfl, acc, ys, rfl, rfl, SqL.of h3, fun z hz => ?_, _, rfl, ?_⟩
      · obtain ⟨i, hi, rfl⟩ := List.getElem_of_mem hz
        obtain ⟨o, _, ho⟩ := hy3 i _ (List.getElem?_eq_getElem hi)
        cases o with
        | none => exact .inl ho
        | some r => obtain ⟨a, e, ha⟩ := ho; exact .inr ⟨a, _, e, ha⟩
      cases ef : firstN (rest.map roadM) with
      | some i =>
        rw [refL_row ev ef] at em
        obtain ⟨f1, f2⟩ := firstN_some ef
        have hil : i < ys.length := by
          have := (List.getElem?_eq_some_iff.mp f1).1
          rw [List.length_map] at this
          omega
        have yn : ys[i]? = some .non := by
          obtain ⟨o, e1, e2⟩ := hy3 i ys[i] (List.getElem?_eq_getElem hil)
          rw [f1] at e1
          cases e1
          rw [List.getElem?_eq_getElem hil]
          exact congrArg some e2
        refine ite_t (List.any_eq_true.mpr ⟨.non, List.mem_of_getElem? yn, rfl⟩) ?_
        -- raise BadRow(roads.index(None) + 2)
        refine ⟨_, rfl, .inl ⟨rfl, _, SqL.of h3⟩, acc, ys, i, rfl, rfl, SqL.of h3, fun z hz => ?_, yn, fun m hm z => ?_, _, _, rfl, rfl, ?_⟩
        · obtain ⟨i, hi, rfl⟩ := List.getElem_of_mem hz
          obtain ⟨o, _, ho⟩ := hy3 i _ (List.getElem?_eq_getElem hi)
          cases o with
          | none => exact .inl ho
          | some r => obtain ⟨a, e, ha⟩ := ho; exact .inr ⟨a, _, e, ha⟩
        · obtain ⟨o, e1, e2⟩ := hy3 m _ z
          cases o with
          | none => exact f2 m hm e1
          | some r => obtain ⟨a, e, ha⟩ := e2; cases e
        · rw [em] at kx
          exact ⟨by show 1 ≤ sizeLine; decide, raise_row s14 (kx (by omega))⟩
      | none =>
        obtain ⟨rs, ers⟩ := firstN_none ef
        have hys : Reps H4 ys (rs.map roadD) := reps_of (by have := congrArg List.length ers; simp at this; omega) (by rw [← ers]; exact hy3)
        have hR : RoadsAt H4 acc rs := ⟨ys, h3, hys⟩
        have hlr : rs.length ≤ 1000 := by have := congrArg List.length ers; simp at this; omega
        refine ite_f ?_ ?_
        · refine List.any_eq_false.mpr fun z hz => ?_
          obtain ⟨i, hi, rfl⟩ := List.getElem_of_mem hz
          obtain ⟨r, a, _, e, ha⟩ := RoadsAt.get h3 hys (List.getElem?_eq_getElem hi)
          rw [e]
          simp [isN]
        -- if not is_tree
        refine ⟨_, rfl, _, rfl, acc, v, rs, rfl, hR, hlr, fun b H5 s5 hb => ⟨b, rfl, ?_⟩⟩
        have s15 := s14.trans s5
        by_cases hT : IsTree v rs
        · refine ite_f (by rw [hb.mpr hT]; rfl) ?_
          rw [refL_tree ev ers hT] at em
          refine ⟨_, rfl, _, rfl, fun y dy hy hdy hne => ?_⟩
          have s6 : Same H5 (upd (upd H5 dy (.own y)) y (.ins t.C_Tree dy [])) := (by grind [upd, same_iff])
          refine ⟨y, dy, acc, v, rs, rfl, upd_same, (hR.keep s5).keep s6, hT, fun tq H7 htq T kp => ⟨rfl, ?_⟩⟩
          exact k em y H7 (fun b o e => kp _ _ (s6 _ _ (s15 _ _ e)) (ne_of_none e (s15.free hy)))
        · refine ite_t (by cases b with | true => exact absurd (hb.mp rfl) hT | false => rfl) ?_
          rw [refL_no ev ers hT] at em
          refine ⟨_, rfl, l, _, rfl, .inl (SqL.of (s5 _ _ hl4)), _, _, rfl, rfl, ?_⟩
          have el : (((r0 :: rest).map V.str).length : Int) + 1 = (rest.length : Int) + 2 := by simp; omega
          rw [em, ← el] at kx
          exact ⟨by show 1 ≤ sizeLine; decide, raise_row s15 (kx (by omega))⟩
end
end WR
namespace WR
open PySem L2
def sp_refused : Sp := fun vs H Q _ => ∃ x : Str, vs = [.str x] ∧ x.length ≤ 100000 ∧ (PySem.Txt.split x "\n").length ≤ 100 ∧ ∀ H', Same H H' → Q (.int (refM x)) H'
section
variable {P : Program} {w : World} {K : PySem.W.Frag} {mg : Str → Option Value} {base : Heap} {t : Adr}
theorem ok__law_refused (TT : Txt K mg t) : FnOk P w K mg base CX0 8 t.f__law_refused t.d__law_refused ["_law_text"] sp_refused := by
  refine TT.F__law_refused.ok sc__law_refused (fun vs H Q E h => ?_) (fun cdv A outer sh H vs Q E hr h => ?_)
  · obtain ⟨x, rfl, _⟩ := h
    rfl
  · obtain ⟨x, rfl, hx, hr100, k⟩ := h
    refine ⟨_, (pss_cons (ps_try (fun cls dx H' => cls = .ref t.C_BadRow ∧ Same H H' ∧ ∃ d, dx = some d ∧ H' d = some (.xd [("row", .int (refM x))])) (i := 1) rfl rfl rfl sc__law_refused.nd rfl rfl rfl TT.m_RoadError TT.X_RoadError (fun pn => (pss_one (ps_expr (pe_call (okx_read TT) (hr.mono (by decide)) rfl TT.m_read TT.F_read.kp TT.b_read .nil passT (pa_cons (pv 0) pa_nil))))) (fun a pn => (pss_cons (ps_set (i := 2) sc__law_refused.nd rfl (Or.inl rfl) (pe_lst (pa_cons (pe_callB (call_isinstXK (K := K) rfl) rfl TT.z_isinstance WB.bt_isinstance (pa_cons (pv 1) (pa_cons (pe_glob (v := .ref t.C_BadTree) rfl TT.m_BadTree rfl) pa_nil))) (pa_cons (pe_callB (call_isinstXK (K := K) rfl) rfl TT.z_isinstance WB.bt_isinstance (pa_cons (pv 1) (pa_cons (pe_glob (v := .ref t.C_NoRoad) rfl TT.m_NoRoad rfl) pa_nil))) (pa_cons (pe_callB (call_isinstXK (K := K) rfl) rfl TT.z_isinstance WB.bt_isinstance (pa_cons (pv 1) (pa_cons (pe_glob (v := .ref t.C_NoVillage) rfl TT.m_NoVillage rfl) pa_nil))) pa_nil))))) (pss_cons (ps_if (PW.pt (pw_or (pt_val (pe_callB (call_anyHK (K := K) rfl rfl) rfl TT.z_any WB.bt_any (pa_cons (pv 2) pa_nil))) (pw_or (pt_val (pe_callB (call_isinstXK (K := K) rfl) rfl TT.z_isinstance WB.bt_isinstance (pa_cons (pv 1) (pa_cons (pe_glob (v := .ref t.C_BadNumber) rfl TT.m_BadNumber rfl) pa_nil)))) (pw_or1 (pt_not (pt_val (pe_callB (call_isinstXK (K := K) rfl) rfl TT.z_isinstance WB.bt_isinstance (pa_cons (pv 1) (pa_cons (pe_glob (v := .ref t.C_BadRow) rfl TT.m_BadRow rfl) pa_nil))))))))) (pss_one (ps_ret (pe_un un_neg pe_int))) pss_nil) (pss_one (ps_ret (pe_ifExp (pt_val (pe_callB (call_isinstXTK (K := K) rfl) rfl TT.z_isinstance WB.bt_isinstance (pa_cons (pv 1) (pa_cons (pe_bltn (v := .ty "ValueError") rfl TT.z_ValueError WB.bt_ValueError rfl) pa_nil)))) (pe_fldXK (K := K) rfl (pv 1) rfl) (pe_un un_neg pe_int)))))))) (pss_one (ps_ret pe_int))), ?_⟩
    constructor
    · refine ⟨_, rfl, x, rfl, hx, hr100, fun e y H' s => ?_, fun e d H' hd s hxd => ⟨rfl, s, d, rfl, hxd⟩⟩
      have := k H' s
      rw [e] at this
      exact this
    · rintro cls dx H1 ⟨rfl, s1, d, rfl, hd⟩
      refine ⟨t.C_BadRow, rfl, TT.k_BadRow_RoadError, fun e he => ?_⟩
      have h2 : upd H1 e (excO e t.C_BadRow (some d)) e = some (excO e t.C_BadRow (some d)) := upd_same
      have s2 : Same H1 (upd H1 e (excO e t.C_BadRow (some d))) := same_new he
      generalize upd H1 e (excO e t.C_BadRow (some d)) = H2 at h2 s2
      refine ⟨_, rfl, e, _, _, _, false, rfl, h2, TT.X_BadRow, TT.o_BadRow_BadTree, _, rfl, e, _, _, _, false, rfl, h2, TT.X_BadRow, TT.o_BadRow_NoRoad, _, rfl, e, _, _, _, false, rfl, h2, TT.X_BadRow, TT.o_BadRow_NoVillage, by show 3 ≤ sizeLine; decide, fun lp hlp => ?_⟩
      have s3 : Same H2 (upd H2 lp (.lst ([false, false, false].map V.bl))) := same_new hlp
      have h3 := s3 _ _ h2
      refine ⟨_, rfl, lp, _, _, [false, false, false], rfl, SqL.of upd_same, h3, _, rfl, iteF ?_⟩
      refine ⟨_, rfl, e, _, _, _, false, rfl, h3, TT.X_BadRow, TT.o_BadRow_BadNumber, _, rfl, iteF ?_⟩
      refine ⟨_, rfl, e, _, _, _, true, rfl, h3, TT.X_BadRow, TT.k_BadRow_BadRow, _, rfl, iteF ?_⟩
      refine ⟨_, rfl, e, _, _, _, true, rfl, h3, TT.X_BadRow, TT.v_BadRow, _, rfl, iteT ?_⟩
      exact ⟨_, rfl, e, _, d, _, _, rfl, h3, s3 _ _ (s2 _ _ hd), TT.XG_BadRow_row, rfl, k _ ((s1.trans s2).trans s3)⟩
end
end WR
namespace WR
open PySem L2
/-! ### rows that can't be read -/
def BadRoad (y : Str) : Prop := roadM y = none ∧ 10 ∉ y.cps.toList ∧ y.length ≤ 5000
def BadHead (y : Str) : Prop := villM y = none ∧ 10 ∉ y.cps.toList ∧ y.length ≤ 5000
instance (y : Str) : Decidable (BadRoad y) := by unfold BadRoad; infer_instance
instance (y : Str) : Decidable (BadHead y) := by unfold BadHead; infer_instance
theorem nine_is : ("9" : Str).cps.toList = [57] := by decide +kernel
theorem nine_mem {n c : Nat} (h : c ∈ (repS "9" n).cps.toList) : c = 57 := by
  rw [repS_cps, nine_is] at h
  obtain ⟨l, h1, h2⟩ := List.mem_flatten.mp h
  rw [List.eq_of_mem_replicate h1] at h2
  simpa using h2
theorem one_len (y : Str) (h : y = "9") : y.length = 1 := by rw [h]; decide +kernel
theorem nine_len : (repS "9" 4000).length = 4000 := by rw [repS_length, one_len _ rfl]
theorem zo_is : ("0-1 " : Str) = ("0-1" : Str) ++ (⟨#[32]⟩ : Str) := by decide +kernel
theorem zo_len : ("0-1 " : Str).length = 4 := by decide +kernel
theorem numM_long {x : Str} (h : 7 < x.length) : numM x = none := by
  unfold numM numB
  rw [decide_eq_false (show ¬ x.length ≤ 7 by omega)]
  simp
theorem road_nines : BadRoad (("0-1 " : Str) ++ repS "9" 4000) := by
  have hs : PySem.Txt.split (("0-1 " : Str) ++ repS "9" 4000) " " = [("0-1" : Str), repS "9" 4000] := by
    rw [zo_is, blank_is]
    exact split_two (by decide +kernel) fun z => by have := nine_mem z; omega
  refine ⟨?_, fun z => ?_, ?_⟩
  · unfold roadM
    rw [hs]
    show roadL [_, repS "9" 4000] (PySem.Txt.split ("0-1" : Str) "-") = none
    rw [show PySem.Txt.split ("0-1" : Str) "-" = [("0" : Str), ("1" : Str)] by decide +kernel]
    unfold roadL
    simp only [numM_long (x := repS "9" 4000) (by rw [nine_len]; decide)]
    cases numM ("0" : Str) <;> cases numM ("1" : Str) <;> rfl
  · rcases mem_app.mp z with z | z
    · exact absurd z (by decide +kernel)
    · have := nine_mem z; omega
  · rw [len_app, zo_len, nine_len]; decide
def roads1 : List Str := ["", "0-1", "0-1 ", " 0-1 1", "0-1  1", "0-1 1 ", "0 1 1", "-1 1", "0- 1", "01-1 1", "0-01 1", "0-1 01"]
def roads2 : List Str := ["0-1 10000000", "0-1 -1", "0-1 +1", "0-1\t1", "0-1 1\t", "\t0-1 1", "x-1 1", "0-1 1.5", "0-1-1 1"]
def roads3 : List Str := ["0-1 1/2", "0-1 1 1", "0--1 1", "-0-1 1", "0-1 1_0", "0:1 1", "what"]
def roads4 : List Str := ["villages 2", "0-12345678 1"]
theorem bad1 : ∀ y ∈ roads1, BadRoad y := by decide +kernel
theorem bad2 : ∀ y ∈ roads2, BadRoad y := by decide +kernel
theorem bad3 : ∀ y ∈ roads3, BadRoad y := by decide +kernel
theorem bad4 : ∀ y ∈ roads4, BadRoad y := by decide +kernel
def roadsAll : List Str := ((roads1 ++ roads2) ++ (roads3 ++ [("0-1 " : Str) ++ repS "9" 4000])) ++ roads4
theorem badAll : ∀ y ∈ roadsAll, BadRoad y := fun y h => by
  unfold roadsAll at h
  simp only [List.mem_append, List.mem_singleton] at h
  rcases h with ((h | h) | (h | h)) | h
  · exact bad1 y h
  · exact bad2 y h
  · exact bad3 y h
  · rw [h]; exact road_nines
  · exact bad4 y h
def heads1 : List Str := ["villages", "villages ", "villages 0", "villages 02", "villages x", "Villages 2", " villages 2"]
def heads2 : List Str := ["villages  2", "villages 2 ", "villages\t2", "2", "villages -1", "villages 2_0"]
def heads3 : List Str := ["villages 10000000"]
def headsAll : List Str := (heads1 ++ heads2) ++ heads3
theorem badHeads : ∀ y ∈ headsAll, BadHead y := by decide +kernel
theorem str_at {xs : List Str} {i : Int} (h0 : 0 ≤ i) (h1 : i < xs.length) : ∃ y ∈ xs, atI (xs.map V.str) i = some (.str y) := by
  obtain ⟨j, rfl⟩ := Int.eq_ofNat_of_zero_le h0
  have hj : j < xs.length := by omega
  exact ⟨xs[j], List.getElem_mem _, atI_nat (by rw [List.getElem?_map, List.getElem?_eq_getElem hj]; rfl)⟩
def sp_bad_road : Sp := fun vs H Q _ => ∃ i : Int, vs = [.int i] ∧ 0 ≤ i ∧ i < 31 ∧ ∀ y H', BadRoad y → Same H H' → Q (.str y) H'
def sp_bad_head : Sp := fun vs H Q _ => ∃ i : Int, vs = [.int i] ∧ 0 ≤ i ∧ i < 14 ∧ ∀ y H', BadHead y → Same H H' → Q (.str y) H'
end WR
namespace WR
open PySem L2
section
variable {P : Program} {w : World} {K : PySem.W.Frag} {mg : Str → Option Value} {base : Heap} {t : Adr}
theorem ok__law_bad_road (TT : Txt K mg t) : FnOk P w K mg base CX0 1 t.f__law_bad_road t.d__law_bad_road ["_law_which"] sp_bad_road := by
  refine TT.F__law_bad_road.okX sc__law_bad_road (fun vs H Q E h => ?_) (fun cdv A outer sh H vs Q E hr h => ?_)
  · obtain ⟨i, rfl, _⟩ := h
    rfl
  · obtain ⟨i, rfl, h0, h1, k⟩ := h
    refine ⟨_, (xss_cons (xs_set (i := 1) sc__law_bad_road.nd rfl (Or.inl rfl) (xe_lst (xa_consC xe_str (xa_consC xe_str (xa_consC xe_str (xa_consC xe_str (xa_consC xe_str (xa_consC xe_str (xa_consC xe_str (xa_consC xe_str (xa_consC xe_str (xa_consC xe_str (xa_consC xe_str (xa_consC xe_str xa_nil)))))))))))))) (xss_cons (xs_set (i := 1) sc__law_bad_road.nd rfl (Or.inl rfl) (xe_op op_cat (xv 1) (xe_lst (xa_consC xe_str (xa_consC xe_str (xa_consC xe_str (xa_consC xe_str (xa_consC xe_str (xa_consC xe_str (xa_consC xe_str (xa_consC xe_str (xa_consC xe_str xa_nil)))))))))))) (xss_cons (xs_set (i := 1) sc__law_bad_road.nd rfl (Or.inl rfl) (xe_op op_cat (xv 1) (xe_lst (xa_consC xe_str (xa_consC xe_str (xa_consC xe_str (xa_consC xe_str (xa_consC xe_str (xa_consC xe_str (xa_consC xe_str (xa_consB (xe_op op_add_str xe_str (xe_op op_mulStr xe_str xe_int)) xa_nil))))))))))) (xss_one (xs_ret (xe_ix ix_list (xe_op op_cat (xv 1) (xe_lst (xa_consC xe_str (xa_consC xe_str xa_nil)))) (xv 0) (fun _ _ => rfl))))))), ?_⟩
    refine ⟨by show 12 ≤ sizeLine; decide, fun l1 g1 => ?_⟩
    have e1 : upd H l1 (.lst (roads1.map V.str)) l1 = some (.lst (roads1.map V.str)) := upd_same
    have s1 : Same H (upd H l1 (.lst (roads1.map V.str))) := same_new g1
    refine ⟨_, rfl, by show 9 ≤ sizeLine; decide, fun l2 g2 => ⟨l1, l2, roads1.map V.str, roads2.map V.str, rfl, rfl, same_new g2 _ _ e1, upd_same, by show 21 ≤ sizeLine; decide, fun l3 g3 => ?_⟩⟩
    rw [← List.map_append]
    have e3 : ∀ X : Hp, upd X l3 (.lst ((roads1 ++ roads2).map V.str)) l3 = some (.lst ((roads1 ++ roads2).map V.str)) := fun X => upd_same
    have s3 : Same H (upd (upd (upd H l1 (.lst (roads1.map V.str))) l2 (.lst (roads2.map V.str))) l3 (.lst ((roads1 ++ roads2).map V.str))) := (s1.trans (same_new g2)).trans (same_new g3)
    refine ⟨_, rfl, ("9" : Str), 4000, rfl, rfl, by decide, by decide, by decide +kernel, by decide +kernel, ("0-1 " : Str), repS "9" 4000, rfl, rfl, by rw [zo_len, nine_len, sizeLine_eq]; decide, by show 8 ≤ sizeLine; decide, fun l4 g4 => ⟨l3, l4, (roads1 ++ roads2).map V.str, (roads3 ++ [("0-1 " : Str) ++ repS "9" 4000]).map V.str, rfl, rfl, same_new g4 _ _ (e3 _), upd_same, by show 29 ≤ sizeLine; decide, fun l5 g5 => ?_⟩⟩
    rw [← List.map_append]
    refine ⟨_, rfl, by show 2 ≤ sizeLine; decide, fun l6 g6 => ⟨l5, l6, ((roads1 ++ roads2) ++ (roads3 ++ [("0-1 " : Str) ++ repS "9" 4000])).map V.str, roads4.map V.str, rfl, rfl, same_new g6 _ _ upd_same, upd_same, by show 31 ≤ sizeLine; decide, fun l7 g7 => ?_⟩⟩
    rw [← List.map_append]
    obtain ⟨y, hy, hat⟩ := str_at (xs := roadsAll) (i := i) h0 (by show i < 31; exact h1)
    refine ⟨_, rfl, l7, _, i, .str y, rfl, rfl, SqL.of upd_same, hat, k y _ (badAll y hy) ?_⟩
    exact (((s3.trans (same_new g4)).trans (same_new g5)).trans (same_new g6)).trans (same_new g7)
theorem ok__law_bad_head (TT : Txt K mg t) : FnOk P w K mg base CX0 1 t.f__law_bad_head t.d__law_bad_head ["_law_which"] sp_bad_head := by
  refine TT.F__law_bad_head.okX sc__law_bad_head (fun vs H Q E h => ?_) (fun cdv A outer sh H vs Q E hr h => ?_)
  · obtain ⟨i, rfl, _⟩ := h
    rfl
  · obtain ⟨i, rfl, h0, h1, k⟩ := h
    refine ⟨_, (xss_cons (xs_set (i := 1) sc__law_bad_head.nd rfl (Or.inl rfl) (xe_lst (xa_consC xe_str (xa_consC xe_str (xa_consC xe_str (xa_consC xe_str (xa_consC xe_str (xa_consC xe_str (xa_consC xe_str xa_nil))))))))) (xss_cons (xs_set (i := 1) sc__law_bad_head.nd rfl (Or.inl rfl) (xe_op op_cat (xv 1) (xe_lst (xa_consC xe_str (xa_consC xe_str (xa_consC xe_str (xa_consC xe_str (xa_consC xe_str (xa_consC xe_str xa_nil))))))))) (xss_one (xs_ret (xe_ix ix_list (xe_op op_cat (xv 1) (xe_lst (xa_consC xe_str xa_nil))) (xv 0) (fun _ _ => rfl)))))), ?_⟩
    refine ⟨by show 7 ≤ sizeLine; decide, fun l1 g1 => ?_⟩
    have e1 : upd H l1 (.lst (heads1.map V.str)) l1 = some (.lst (heads1.map V.str)) := upd_same
    have s1 : Same H (upd H l1 (.lst (heads1.map V.str))) := same_new g1
    refine ⟨_, rfl, by show 6 ≤ sizeLine; decide, fun l2 g2 => ⟨l1, l2, heads1.map V.str, heads2.map V.str, rfl, rfl, same_new g2 _ _ e1, upd_same, by show 13 ≤ sizeLine; decide, fun l3 g3 => ?_⟩⟩
    rw [← List.map_append]
    refine ⟨_, rfl, by show 1 ≤ sizeLine; decide, fun l6 g6 => ⟨l3, l6, (heads1 ++ heads2).map V.str, heads3.map V.str, rfl, rfl, same_new g6 _ _ upd_same, upd_same, by show 14 ≤ sizeLine; decide, fun l7 g7 => ?_⟩⟩
    rw [← List.map_append]
    obtain ⟨y, hy, hat⟩ := str_at (xs := headsAll) (i := i) h0 (by show i < 14; exact h1)
    refine ⟨_, rfl, l7, _, i, .str y, rfl, rfl, SqL.of upd_same, hat, k y _ (badHeads y hy) ?_⟩
    exact (((s1.trans (same_new g2)).trans (same_new g3)).trans (same_new g6)).trans (same_new g7)
end
end WR
namespace WR
open PySem L2
/-! ### rows that together make no tree; a chain's rows -/
theorem line_one : ("\n" : Str).length = 1 := by decide +kernel
theorem join_is (rows : List Str) : PySem.Txt.join ("\n" : Str) rows = Str.join ⟨#[10]⟩ rows := by
  rw [show PySem.Txt.join ("\n" : Str) rows = Str.join ("\n" : Str) rows from StrLaws.glued_eq_join _ _, line_is]
theorem split_rows {rows : List Str} (h : rows ≠ []) (hf : ∀ p ∈ rows, 10 ∉ p.cps.toList) : PySem.Txt.split (PySem.Txt.join ("\n" : Str) rows) "\n" = rows := by
  rw [line_is]
  exact split_joined h hf
theorem ref_join {rows : List Str} (h : rows ≠ []) (hf : ∀ p ∈ rows, 10 ∉ p.cps.toList) : refM (PySem.Txt.join ("\n" : Str) rows) = refL rows := by
  unfold refM
  rw [split_rows h hf]
theorem join_len (rows : List Str) : (PySem.Txt.join ("\n" : Str) rows).length ≤ (rows.map (·.length)).sum + rows.length := by
  rw [show PySem.Txt.join ("\n" : Str) rows = Str.join ("\n" : Str) rows from StrLaws.glued_eq_join _ _]
  have := StrLaws.join_length_le ("\n" : Str) rows
  rw [line_one, Nat.mul_one] at this
  exact this
theorem lens_le {m : Nat} : ∀ {rows : List Str}, (∀ p ∈ rows, p.length ≤ m) → (rows.map (·.length)).sum ≤ m * rows.length
  | [], _ => Nat.zero_le _
  | p :: r, h => by
    have := lens_le (rows := r) fun q hq => h q (List.mem_cons_of_mem _ hq)
    have := h p (List.mem_cons_self ..)
    rw [List.map_cons, List.sum_cons, List.length_cons, Nat.mul_succ]
    omega
/-- the answer is one more than the rows -/
structure Wrong (y : Str) : Prop where
  r : refM y = ((PySem.Txt.split y "\n").length : Int) + 1
  l : y.length ≤ 100000
  n : (PySem.Txt.split y "\n").length ≤ 100
theorem wrong_of {y h : Str} {rest : List Str} {v : Int} {rs : List Road} (e : PySem.Txt.split y "\n" = h :: rest) (hv : villM h = some v) (hr : rest.map roadM = rs.map some) (hT : ¬ IsTree v rs) (hl : y.length ≤ 100000) (hn : rest.length ≤ 99) : Wrong y :=
  ⟨by unfold refM; rw [e, refL_no hv hr hT, List.length_cons]; omega, hl, by rw [e, List.length_cons]; omega⟩
theorem no_count {n : Int} {rs : List Road} (h : rs.length + 1 ≠ n.toNat) : ¬ IsTree n rs := fun z => h z.2.2.count
theorem no_ne {n a l : Int} {rs : List Road} (h : (a, a, l) ∈ rs) : ¬ IsTree n rs := fun z => z.2.2.roads.ne _ h rfl
theorem no_hi {n a b l : Int} {rs : List Road} (h : (a, b, l) ∈ rs) (hb : n ≤ b) (h0 : 0 ≤ n) : ¬ IsTree n rs := fun z => by
  have := (z.2.2.roads.hi _ h).2
  have : b < (n.toNat : Int) := this
  omega
theorem no_ps {n a b l : Int} {rs : List Road} (h : (a, b, l) ∈ rs) (hb : l < 1 ∨ 1000000 < l) : ¬ IsTree n rs := fun z => by
  have := z.2.2.roads.ps _ h
  have : 1 ≤ l ∧ l ≤ 1000000 := this
  omega
theorem no_conn3 {l m : Int} : ¬ IsTree 3 [(0, 1, l), (1, 0, m)] := fun z => by
  have := z.2.2.conn (fun v => v = 0 ∨ v = 1) (.inl rfl) (fun i x y k hx j => ?_) 2 ⟨by decide, by decide⟩
  · rcases this with e | e <;> exact absurd e (by decide)
  · rcases j with j | j
    · match i, j with
      | 0, j => cases j; exact .inr rfl
      | 1, j => cases j; exact .inl rfl
    · match i, j with
      | 0, j => cases j; exact .inl rfl
      | 1, j => cases j; exact .inr rfl
theorem no_conn4 {l m k : Int} : ¬ IsTree 4 [(0, 1, l), (1, 2, m), (2, 0, k)] := fun z => by
  have := z.2.2.conn (fun v => v ≠ 3) (by decide) (fun i x y k hx j => ?_) 3 ⟨by decide, by decide⟩
  · exact this rfl
  · rcases j with j | j
    · match i, j with
      | 0, j => cases j; decide
      | 1, j => cases j; decide
      | 2, j => cases j; decide
    · match i, j with
      | 0, j => cases j; decide
      | 1, j => cases j; decide
      | 2, j => cases j; decide
def texts1 : List Str := ["villages 2", "villages 1\n0-1 1", "villages 2\n0-0 1", "villages 2\n0-2 1", "villages 2\n0-1 0"]
def texts2 : List Str := ["villages 2\n0-1 1000001", "villages 3\n0-1 1\n1-0 2"]
def text3 : Str := "villages 2\n0-1234567 1"
theorem two_is : villM "villages 2" = some 2 := by decide +kernel
theorem wrong1 : ∀ y ∈ texts1, Wrong y := fun y h => by
  unfold texts1 at h
  simp only [List.mem_cons, List.not_mem_nil, or_false] at h
  rcases h with rfl | rfl | rfl | rfl | rfl
  · exact wrong_of (h := "villages 2") (rest := []) (v := 2) (rs := []) (by decide +kernel) two_is rfl (no_count (by decide)) (by decide +kernel) (by decide)
  · exact wrong_of (h := "villages 1") (rest := ["0-1 1"]) (v := 1) (rs := [(0, 1, 1)]) (by decide +kernel) (by decide +kernel) (by decide +kernel) (no_count (by decide)) (by decide +kernel) (by decide)
  · exact wrong_of (h := "villages 2") (rest := ["0-0 1"]) (v := 2) (rs := [(0, 0, 1)]) (by decide +kernel) two_is (by decide +kernel) (no_ne (List.mem_cons_self ..)) (by decide +kernel) (by decide)
  · exact wrong_of (h := "villages 2") (rest := ["0-2 1"]) (v := 2) (rs := [(0, 2, 1)]) (by decide +kernel) two_is (by decide +kernel) (no_hi (List.mem_cons_self ..) (by decide) (by decide)) (by decide +kernel) (by decide)
  · exact wrong_of (h := "villages 2") (rest := ["0-1 0"]) (v := 2) (rs := [(0, 1, 0)]) (by decide +kernel) two_is (by decide +kernel) (no_ps (List.mem_cons_self ..) (by decide)) (by decide +kernel) (by decide)
theorem wrong2 : ∀ y ∈ texts2, Wrong y := fun y h => by
  unfold texts2 at h
  simp only [List.mem_cons, List.not_mem_nil, or_false] at h
  rcases h with rfl | rfl
  · exact wrong_of (h := "villages 2") (rest := ["0-1 1000001"]) (v := 2) (rs := [(0, 1, 1000001)]) (by decide +kernel) two_is (by decide +kernel) (no_ps (List.mem_cons_self ..) (by decide)) (by decide +kernel) (by decide)
  · exact wrong_of (h := "villages 3") (rest := ["0-1 1", "1-0 2"]) (v := 3) (rs := [(0, 1, 1), (1, 0, 2)]) (by decide +kernel) (by decide +kernel) (by decide +kernel) no_conn3 (by decide +kernel) (by decide)
theorem wrong3 : Wrong text3 := wrong_of (h := "villages 2") (rest := ["0-1234567 1"]) (v := 2) (rs := [(0, 1234567, 1)]) (by decide +kernel) two_is (by decide +kernel) (no_hi (List.mem_cons_self ..) (by decide) (by decide)) (by decide +kernel) (by decide)
def rows13 (m : Nat) : List Road := (List.range m).map fun k : Nat => ((k : Int), (k : Int) + 1, (1 : Int))
theorem rows13_short (m : Nat) (h : m ≤ 12) : Short (rows13 m) := fun r hr => by
  obtain ⟨k, hk, rfl⟩ := List.mem_map.mp hr
  have := List.mem_range.mp hk
  refine ⟨⟨?_, ?_⟩, ⟨?_, ?_⟩, ?_, ?_⟩ <;> dsimp only <;> omega
theorem rows_road {rs : List Road} (h : Short rs) : (rs.map rowT).map roadM = rs.map some := by
  rw [List.map_map]
  refine List.map_congr_left fun r hr => ?_
  obtain ⟨a, b, c⟩ := h r hr
  exact roadM_row a b c
theorem rows_free {rs : List Road} (h : Short rs) : ∀ p ∈ rs.map rowT, 10 ∉ p.cps.toList ∧ p.length ≤ 5000 := fun p hp => by
  obtain ⟨r, hr, rfl⟩ := List.mem_map.mp hp
  obtain ⟨a, b, c⟩ := h r hr
  exact ⟨rowT_line a.1 b.1 c.1, by have := rowT_le a b c; omega⟩
theorem short_len {rows : List Str} (h : ∀ p ∈ rows, 10 ∉ p.cps.toList ∧ p.length ≤ 5000) (hn : rows.length ≤ 19) : (PySem.Txt.join ("\n" : Str) rows).length ≤ 100000 ∧ (rows.map (·.length)).sum + rows.length * ("\n" : Str).length ≤ 16777216 := by
  have a := join_len rows
  have b := lens_le (m := 5000) fun p hp => (h p hp).2
  rw [line_one, Nat.mul_one]
  have : 5000 * rows.length ≤ 5000 * 19 := Nat.mul_le_mul_left _ hn
  omega
def text13 : Str := PySem.Txt.join ("\n" : Str) (("villages 13" : Str) :: (rows13 12).map rowT)
theorem free13 : ∀ p ∈ (("villages 13" : Str) :: (rows13 12).map rowT), 10 ∉ p.cps.toList ∧ p.length ≤ 5000 := fun p hp => by
  rcases List.mem_cons.mp hp with rfl | hp
  · decide +kernel
  · exact rows_free (rows13_short 12 (by decide)) p hp
theorem wrong13 : Wrong text13 := by
  have e : PySem.Txt.split text13 "\n" = (("villages 13" : Str) :: (rows13 12).map rowT) := split_rows (by simp) fun p hp => (free13 p hp).1
  refine wrong_of e (v := 13) (by decide +kernel) (rows_road (rows13_short 12 (by decide))) (fun z => absurd z.2.1 (by decide)) (short_len free13 (by simp [rows13])).1 (by simp [rows13])
theorem one_row (k : Int) : numT k ++ ("-" : Str) ++ numT (k + 1) ++ (" 1" : Str) = rowT (k, k + 1, 1) := by
  unfold rowT
  rw [show (" 1" : Str) = (" " : Str) ++ numT 1 by decide +kernel, ← str_assoc]
def head4 : Str := "villages 4\n0-1 1\n1-2 1\n2-0 "
theorem text4_is (m : Int) : head4 ++ numT m = PySem.Txt.join ("\n" : Str) [("villages 4" : Str), rowT (0, 1, 1), rowT (1, 2, 1), rowT (2, 0, m)] := by
  rw [join_is]
  refine cps_inj ?_
  rw [join_cut, join_cut, join_cut, join_one, cps_append]
  have e : (rowT (2, 0, m)).cps.toList = ("2-0 " : Str).cps.toList ++ (numT m).cps.toList := by
    unfold rowT
    rw [cps_append, show numT (2, 0, m).1 ++ ("-" : Str) ++ numT (2, 0, m).2.1 ++ (" " : Str) = ("2-0 " : Str) from (by decide +kernel : numT 2 ++ ("-" : Str) ++ numT 0 ++ (" " : Str) = ("2-0 " : Str))]
  rw [e]
  have e2 : head4.cps.toList = ("villages 4" : Str).cps.toList ++ 10 :: ((rowT (0, 1, 1)).cps.toList ++ 10 :: ((rowT (1, 2, 1)).cps.toList ++ 10 :: ("2-0 " : Str).cps.toList)) := by decide +kernel
  rw [e2]
  simp only [List.append_assoc, List.cons_append]
theorem short4 {m : Int} (h0 : 1 ≤ m) (h1 : m ≤ 1000000) : Short [(0, 1, 1), (1, 2, 1), (2, 0, m)] := fun r hr => by
  simp only [List.mem_cons, List.not_mem_nil, or_false] at hr
  rcases hr with rfl | rfl | rfl <;> refine ⟨⟨?_, ?_⟩, ⟨?_, ?_⟩, ?_, ?_⟩ <;> dsimp only <;> omega
theorem ref4 {m : Int} (h0 : 1 ≤ m) (h1 : m ≤ 1000000) : refM (head4 ++ numT m) = 5 ∧ (head4 ++ numT m).length ≤ 100000 ∧ (PySem.Txt.split (head4 ++ numT m) "\n").length ≤ 100 := by
  have hs := short4 h0 h1
  have fr : ∀ p ∈ (("villages 4" : Str) :: [(0, 1, 1), (1, 2, 1), (2, 0, m)].map rowT), 10 ∉ p.cps.toList ∧ p.length ≤ 5000 := fun p hp => by
    rcases List.mem_cons.mp hp with rfl | hp
    · decide +kernel
    · exact rows_free hs p hp
  rw [text4_is]
  have e := split_rows (rows := ("villages 4" : Str) :: [(0, 1, 1), (1, 2, 1), (2, 0, m)].map rowT) (by simp) fun p hp => (fr p hp).1
  refine ⟨?_, (short_len fr (by show 4 ≤ 19; decide)).1, ?_⟩
  · refine (ref_join (rows := ("villages 4" : Str) :: [(0, 1, 1), (1, 2, 1), (2, 0, m)].map rowT) (by simp) fun p hp => (fr p hp).1).trans ?_
    exact refL_no (v := 4) (by decide +kernel) (rows_road hs) no_conn4
  · show (PySem.Txt.split (PySem.Txt.join ("\n" : Str) (("villages 4" : Str) :: [(0, 1, 1), (1, 2, 1), (2, 0, m)].map rowT)) "\n").length ≤ 100
    rw [e]
    show 4 ≤ 100
    decide
theorem ref_empty : refM "" = 1 ∧ ("" : Str).length ≤ 100000 ∧ (PySem.Txt.split ("" : Str) "\n").length ≤ 100 := by
  have e : PySem.Txt.split ("" : Str) "\n" = [("" : Str)] := by decide +kernel
  refine ⟨?_, by decide +kernel, by rw [e]; decide⟩
  unfold refM
  rw [e]
  exact refL_head (by decide +kernel)
/-! the chain -/
structure Chain (rs : List Road) : Prop where
  at_ : ∀ (j : Nat) r, rs[j]? = some r → r.1 = (j : Int) + 1 ∧ r.2.1 = j ∧ 1 ≤ r.2.2 ∧ r.2.2 ≤ 1000000
theorem Chain.nil : Chain [] := ⟨fun j r h => by simp at h⟩
theorem Chain.snoc {rs : List Road} {l : Int} (h : Chain rs) (h0 : 1 ≤ l) (h1 : l ≤ 1000000) : Chain (rs ++ [((rs.length : Int) + 1, (rs.length : Int), l)]) := ⟨fun j r e => by
  by_cases hj : j < rs.length
  · rw [List.getElem?_append_left hj] at e
    exact h.at_ j r e
  · have : j = rs.length := by have := (List.getElem?_eq_some_iff.mp e).1; simp at this; omega
    subst this
    rw [List.getElem?_append_right (Nat.le_refl _), Nat.sub_self] at e
    cases e
    exact ⟨rfl, rfl, h0, h1⟩⟩
theorem Chain.tree {rs : List Road} (h : Chain rs) {n : Int} (hn : (rs.length : Int) + 1 = n) (h12 : n ≤ 12) : IsTree n rs := by
  have mem : ∀ r ∈ rs, ∃ j : Nat, j < rs.length ∧ r.1 = (j : Int) + 1 ∧ r.2.1 = j ∧ 1 ≤ r.2.2 ∧ r.2.2 ≤ 1000000 := fun r hr => by
    obtain ⟨j, hj, e⟩ := List.getElem_of_mem hr
    exact ⟨j, hj, h.at_ j r (by rw [List.getElem?_eq_getElem hj, e])⟩
  have en : n.toNat = rs.length + 1 := by omega
  refine ⟨by omega, h12, ⟨⟨fun r hr => ?_, fun r hr => ?_, fun r hr => ?_, fun r hr => ?_⟩, en.symm, fun Kp k0 hc v hv => ?_⟩⟩
  · obtain ⟨j, _, a, b, _⟩ := mem r hr; omega
  · obtain ⟨j, hj, a, b, _⟩ := mem r hr; rw [en]; push_cast; omega
  · obtain ⟨j, _, a, b, _⟩ := mem r hr; omega
  · obtain ⟨j, _, a, b, c⟩ := mem r hr; exact c
  · have all : ∀ m : Nat, m ≤ rs.length → Kp (m : Int) := fun m => by
      induction m with
      | zero => intro _; exact k0
      | succ m ih =>
        intro hm
        have hlt : m < rs.length := by omega
        obtain ⟨a, b, _⟩ := h.at_ m rs[m] (List.getElem?_eq_getElem hlt)
        refine hc m (m : Int) _ rs[m].2.2 (ih (by omega)) (.inr ?_)
        rw [List.getElem?_eq_getElem hlt]
        have : rs[m] = (((m + 1 : Nat) : Int), (m : Int), rs[m].2.2) := by
          apply Prod.ext
          · rw [a]; push_cast; rfl
          · apply Prod.ext
            · exact b
            · rfl
        exact congrArg some this
    obtain ⟨m, rfl⟩ := Int.eq_ofNat_of_zero_le hv.1
    have := hv.2
    exact all m (by omega)
theorem Chain.short {rs : List Road} (h : Chain rs) (hl : rs.length ≤ 12) : Short rs := fun r hr => by
  obtain ⟨j, hj, e⟩ := List.getElem_of_mem hr
  obtain ⟨a, b, c, d⟩ := h.at_ j r (by rw [List.getElem?_eq_getElem hj, e])
  omega
theorem firstN_app (rs : List Road) (os : List (Option Road)) : firstN (rs.map some ++ none :: os) = some rs.length := by
  induction rs with
  | nil => rfl
  | cons r t ih => show (firstN (t.map some ++ none :: os)).map _ = _; rw [ih]; rfl
theorem join_snoc : ∀ {ps : List Str}, ps ≠ [] → (Str.join ⟨#[10]⟩ (ps ++ [("" : Str)])).cps.toList = (Str.join ⟨#[10]⟩ ps).cps.toList ++ [10]
  | [], h => absurd rfl h
  | [a], _ => by
    rw [List.singleton_append, join_cut, join_one, join_one]
    rfl
  | a :: b :: r, _ => by
    have ih := join_snoc (ps := b :: r) (by simp)
    rw [List.cons_append, List.cons_append, join_cut, ← List.cons_append, ih, join_cut]
    simp only [List.append_assoc, List.cons_append]
theorem join_line {ps : List Str} (h : ps ≠ []) : PySem.Txt.join ("\n" : Str) ps ++ ("\n" : Str) = PySem.Txt.join ("\n" : Str) (ps ++ [("" : Str)]) := by
  refine cps_inj ?_
  rw [join_is, join_is, join_snoc h, cps_append, line_is]
end WR
namespace WR
open PySem L2
theorem len_dash : ("-" : Str).length = 1 := by decide +kernel
theorem len_blank : (" " : Str).length = 1 := by decide +kernel
theorem len_one1 : (" 1" : Str).length = 2 := by decide +kernel
theorem len_head4 : head4.length ≤ 100 := by decide +kernel
theorem rows13_succ (m : Nat) : (rows13 (m + 1)).map rowT = (rows13 m).map rowT ++ [rowT ((m : Int), (m : Int) + 1, 1)] := by
  unfold rows13
  rw [List.range_succ, List.map_append, List.map_append]
  rfl
theorem rows13_len (m : Nat) : ((rows13 m).map rowT).length = m := by simp [rows13]
def sp_whole : Sp := fun vs H Q _ => ∃ m : Int, vs = [.int m] ∧ 0 ≤ m ∧ m < 1000000 ∧ ∀ H', Q (.bl true) H'
section
variable {P : Program} {w : World} {K : PySem.W.Frag} {mg : Str → Option Value} {base : Heap} {t : Adr}
theorem ok__law_whole (TT : Txt K mg t) : FnOk P w K mg base CX0 9 t.f__law_whole t.d__law_whole ["_law_more"] sp_whole := by
  refine TT.F__law_whole.ok sc__law_whole (fun vs H Q E h => ?_) (fun cdv A outer sh H vs Q E hr h => ?_)
  · obtain ⟨m, rfl, _⟩ := h
    rfl
  · obtain ⟨m, rfl, h0, h1, k⟩ := h
    refine ⟨_, (pss_cons (ps_set (i := 1) sc__law_whole.nd rfl (Or.inl rfl) (pe_lst (pa_consC pe_str (pa_consC pe_str (pa_consC pe_str (pa_consC pe_str (pa_consC pe_str pa_nil))))))) (pss_cons (ps_set (i := 1) sc__law_whole.nd rfl (Or.inl rfl) (pe_op op_cat (pv 1) (pe_lst (pa_consC pe_str (pa_consC pe_str pa_nil))))) (pss_cons (ps_expr (pe_bm PySem.F.plainAttrs_list PySem.F.slot_list_append PySem.F.type_list_append mt_append (pv 1) (pa_consC pe_str pa_nil))) (pss_cons (ps_expr (pe_bm PySem.F.plainAttrs_list PySem.F.slot_list_append PySem.F.type_list_append mt_append (pv 1) (pa_cons (pe_bm PySem.F.plainAttrs_str PySem.F.slot_str_join PySem.F.type_str_join mt_join pe_str (pa_consB (pe_op op_cat (pe_lst (pa_consC pe_str pa_nil)) (pe_comp rfl (N := ["_law_k"]) (fr := []) (compOk (N0 := ["_law_more", "_law_texts", "_law_text"]) (N := ["_law_k"]) (fr := []) (sc0 := defScope s__law_whole) (n0 := 0) rfl ⟨rfl, rfl⟩ (by decide +kernel)) (pi_range1 rfl TT.z_range (pa_consC pe_int pa_nil)) (fun _ _ _ _ _ => ⟨(pg_name (i := 0) (show (["_law_k"] : List Str).Nodup by decide +kernel) rfl (Or.inl rfl)), pf_none, (pe_op op_add_str (pe_op op_add_str (pe_op op_add_str (pe_callTy call_str_int rfl TT.z_str WB.bt_str (pa_cons (pv 0) pa_nil)) pe_str) (pe_callTy call_str_int rfl TT.z_str WB.bt_str (pa_consB (pe_op op_add (pv 0) pe_int) pa_nil))) pe_str)⟩))) pa_nil)) pa_nil))) (pss_cons (ps_for PassesOwn.never rfl (pi_list (pv 1)) (pg_name (i := 2) sc__law_whole.nd rfl (Or.inl rfl)) (pss_one (ps_if (pt_cmpR op_ne (pe_call (ok__law_refused TT) (hr.mono (by decide)) rfl TT.m__law_refused TT.F__law_refused.kp TT.b__law_refused .nil pass0 (pa_cons (pv 2) pa_nil)) (pe_op op_add (pe_callB call_len_seq rfl TT.z_len WB.bt_len (pa_cons (pe_bm PySem.F.plainAttrs_str PySem.F.slot_str_split PySem.F.type_str_split mt_split (pv 2) (pa_consC pe_str pa_nil)) pa_nil)) pe_int) (nomark _)) (pss_one (ps_ret pe_bl)) pss_nil))) (pss_one (ps_ret (pe_and (pe_cmpR op_eq (pe_call (ok__law_refused TT) (hr.mono (by decide)) rfl TT.m__law_refused TT.F__law_refused.kp TT.b__law_refused .nil pass0 (pa_consC pe_str pa_nil)) pe_int (nomark _)) (pe_one (pe_cmpR op_eq (pe_call (ok__law_refused TT) (hr.mono (by decide)) rfl TT.m__law_refused TT.F__law_refused.kp TT.b__law_refused .nil pass0 (pa_consB (pe_op op_add_str pe_str (pe_callTy call_str_int rfl TT.z_str WB.bt_str (pa_consB (pe_op op_add pe_int (pv 0)) pa_nil))) pa_nil)) pe_int (nomark _))))))))))), ?_⟩
    -- texts = [..]; texts = texts + [..]
    refine ⟨by show 5 ≤ sizeLine; decide, fun l1 g1 => ?_⟩
    have e1 : upd H l1 (.lst (texts1.map V.str)) l1 = some (.lst (texts1.map V.str)) := upd_same
    refine ⟨_, rfl, by show 2 ≤ sizeLine; decide, fun l2 g2 => ⟨l1, l2, texts1.map V.str, texts2.map V.str, rfl, rfl, same_new g2 _ _ e1, upd_same, by show 7 ≤ sizeLine; decide, fun l3 g3 => ?_⟩⟩
    rw [← List.map_append]
    have e3 : ∀ X : Hp, upd X l3 (.lst ((texts1 ++ texts2).map V.str)) l3 = some (.lst ((texts1 ++ texts2).map V.str)) := fun X => upd_same
    generalize hH3 : upd _ l3 (.lst ((texts1 ++ texts2).map V.str)) = H3
    have e3 : H3 l3 = some (.lst ((texts1 ++ texts2).map V.str)) := by rw [← hH3]; exact upd_same
    clear hH3 g3 g2 e1 g1
    -- texts.append(text)
    refine ⟨_, rfl, .inl ⟨rfl, _, SqL.of e3⟩, l3, _, _, rfl, rfl, e3, by show 7 < sizeLine; decide, ?_⟩
    generalize hH4 : upd H3 l3 _ = H4
    have e4 : H4 l3 = some (.lst (((texts1 ++ texts2) ++ [text3]).map V.str)) := by rw [← hH4, upd_same, List.map_append]; rfl
    clear hH4 e3
    -- texts.append('\n'.join(['villages 13'] + [..]))
    refine ⟨_, rfl, .inl ⟨rfl, _, SqL.of e4⟩, rfl, by show 1 ≤ sizeLine; decide, fun l5 g5 => ⟨12, rfl, by decide, by decide, fun acc hacc => ?_⟩⟩
    have s5 : Same H4 (upd H4 l5 (.lst [.str "villages 13"])) := same_new g5
    have e5 : upd H4 l5 (.lst [.str "villages 13"]) l5 = some (.lst [.str "villages 13"]) := upd_same
    generalize upd H4 l5 (.lst [.str "villages 13"]) = H5 at s5 e5 hacc
    refine comp_range (k := 12) (fun i τ ys H6 => (∃ o, τ = [o]) ∧ ys = ((rows13 i).map rowT).map V.str ∧ H6 acc = some (.lst ys) ∧ Same H5 H6) ⟨⟨_, rfl⟩, rfl, upd_same, same_new hacc⟩ (fun l τ ys H6 _ ⟨_, _, h3, _⟩ => h3) ?_ ?_
    · rintro i τ ys H6 R hi ⟨⟨o, rfl⟩, rfl, h3, s6⟩ hR
      have a1 := numT_le (i := 0 + (i : Int)) (by omega) (by omega)
      have a2 := numT_le (i := 0 + (i : Int) + 1) (by omega) (by omega)
      refine noifN ?_
      refine ⟨_, rfl, 0 + (i : Int), rfl, log_small (by omega) (by omega), numT (0 + (i : Int)), ("-" : Str), rfl, rfl, by rw [len_dash, sizeLine_eq]; omega, _, rfl, _, _, rfl, rfl, 0 + (i : Int) + 1, rfl, log_small (by omega) (by omega), _, numT (0 + (i : Int) + 1), rfl, rfl, by rw [len_app, len_dash, sizeLine_eq]; omega, _, (" 1" : Str), rfl, rfl, by rw [len_app, len_app, len_dash, len_one1, sizeLine_eq]; omega, h3, by rw [List.length_map, rows13_len, sizeLine_eq]; omega, hR _ _ _ ⟨⟨_, rfl⟩, ?_, upd_same, same_upd s6 hacc⟩⟩
      rw [one_row, rows13_succ, List.map_append, Int.zero_add]
      rfl
    rintro τ ys H6 ⟨_, rfl, h3, s6⟩
    refine ⟨l5, acc, _, _, rfl, rfl, s6 _ _ e5, h3, by rw [List.length_map, rows13_len]; show 1 + 12 ≤ sizeLine; decide, fun l7 g7 => ?_⟩
    have e7 : upd H6 l7 (.lst ([.str "villages 13"] ++ ((rows13 12).map rowT).map V.str)) l7 = some (.lst ((("villages 13" : Str) :: (rows13 12).map rowT).map V.str)) := upd_same
    have s7 : Same H4 (upd H6 l7 (.lst ([.str "villages 13"] ++ ((rows13 12).map rowT).map V.str))) := (s5.trans s6).trans (same_new g7)
    generalize upd H6 l7 (.lst ([.str "villages 13"] ++ ((rows13 12).map rowT).map V.str)) = H7 at e7 s7
    refine ⟨("\n" : Str), l7, _, rfl, rfl, SqL.of e7, (short_len free13 (by rw [List.length_cons, rows13_len]; decide)).2, l3, _, _, rfl, rfl, s7 _ _ e4, by show 8 < sizeLine; decide, ?_⟩
    generalize hH8 : upd H7 l3 _ = H8
    have e8 : H8 l3 = some (.lst ((((texts1 ++ texts2) ++ [text3]) ++ [text13]).map V.str)) := by rw [← hH8, upd_same, List.map_append (l₂ := [text13])]; rfl
    clear hH8 e7 s7 g7 s6 h3 hacc e5 s5 g5 e4
    have al : ∀ y ∈ (((texts1 ++ texts2) ++ [text3]) ++ [text13]), Wrong y := fun y hy => by
      simp only [List.mem_append, List.mem_singleton] at hy
      rcases hy with ((hy | hy) | hy) | hy
      · exact wrong1 y hy
      · exact wrong2 y hy
      · rw [hy]; exact wrong3
      · rw [hy]; exact wrong13
    generalize (((texts1 ++ texts2) ++ [text3]) ++ [text13]) = ts at al e8
    -- for text in texts
    refine ⟨_, rfl, l3, rfl, ⟨_, SqL.of e8⟩, for_list (K := K) (a := l3) (xs := ts.map V.str) (fun i σ H9 => (∃ v1, σ = [some (.int m), some (.ref l3), v1]) ∧ Same H8 H9) ⟨⟨none, rfl⟩, Same.refl _⟩ (fun i σ H9 _ ⟨_, s⟩ => SqL.of (s _ _ e8)) ?_ ?_⟩
    · rintro i z σ H9 hi ⟨⟨v1, rfl⟩, s9⟩
      rw [List.getElem?_map] at hi
      obtain ⟨y, hy, rfl⟩ := Option.map_eq_some_iff.mp hi
      have W := al y (List.mem_of_getElem? hy)
      refine ⟨_, rfl, y, rfl, W.l, W.n, fun Ha sa => ⟨_, rfl, rfl, y, ("\n" : Str), rfl, rfl, line_len, by have := W.l; rw [sizeLine_eq]; omega, fun lb gb => ⟨lb, _, rfl, .inl (SqL.of upd_same), _, _, rfl, rfl, rfl, _, rfl, ite_f ?_ ⟨⟨_, rfl⟩, (s9.trans sa).trans (same_new gb)⟩⟩⟩⟩
      rw [W.r, List.length_map]
      simp
    · rintro σ H9 ⟨⟨v1, rfl⟩, s9⟩
      refine ⟨("" : Str), rfl, ref_empty.2.1, ref_empty.2.2, fun Ha sa => ⟨rfl, _, rfl, ite_t (by rw [ref_empty.1]; rfl) ?_⟩⟩
      have hn := numT_le (i := 1 + m) (by omega) (by omega)
      obtain ⟨r1, r2, r3⟩ := ref4 (m := 1 + m) (by omega) (by omega)
      refine ⟨_, rfl, _, _, rfl, rfl, 1 + m, rfl, log_small (by omega) (by omega), head4, numT (1 + m), rfl, rfl, by have := len_head4; rw [sizeLine_eq]; omega, head4 ++ numT (1 + m), rfl, r2, r3, fun Hb sb => ⟨rfl, ?_⟩⟩
      rw [r1]
      exact k _
end
end WR
namespace WR
open PySem L2
theorem cut_hi (xs : List V) (p : Nat) (h : p ≤ xs.length) : cutV xs none (some (p : Int)) = xs.take p := by
  unfold cutV
  rw [HT.sIx_nat, HT.sIx_none, List.drop_zero, Nat.sub_zero, Nat.min_eq_left h]
theorem cut_lo (xs : List V) (p : Nat) (h : p ≤ xs.length) : cutV xs (some (p : Int)) none = xs.drop p := by
  unfold cutV
  rw [HT.sIx_nat, HT.sIx_none, Nat.min_eq_left h]
  exact List.take_of_length_le (by simp)
def goodR (n : Int) (rs : List Road) : List Str := headT n :: rs.map rowT
theorem good_free {n : Int} {rs : List Road} (h0 : 0 ≤ n) (h1 : n < 100) (hs : Short rs) : ∀ p ∈ goodR n rs, 10 ∉ p.cps.toList ∧ p.length ≤ 5000 := fun p hp => by
  rcases List.mem_cons.mp hp with rfl | hp
  · exact ⟨headT_line h0, by have := headT_le (n := n) h0 (by omega); omega⟩
  · exact rows_free hs p hp
theorem vill_good {n : Int} (h0 : 1 ≤ n) (h1 : n < 100) : villM (headT n) = some n := by
  obtain ⟨N, rfl⟩ := Int.eq_ofNat_of_zero_le (show 0 ≤ n by omega)
  exact villM_head (by omega) (by omega)
theorem ref_bad {n : Int} {rs : List Road} {y : Str} {more : List Str} {q : Nat} (h0 : 1 ≤ n) (h1 : n < 100) (hs : Short rs) (hq : q ≤ rs.length) (hy : roadM y = none) :
    refL (((goodR n rs).take (q + 1) ++ [y] ++ (goodR n rs).drop (q + 1)) ++ more) = (q : Int) + 2 := by
  have e : ((goodR n rs).take (q + 1) ++ [y] ++ (goodR n rs).drop (q + 1)) ++ more = headT n :: ((rs.take q).map rowT ++ y :: ((rs.map rowT).drop q ++ more)) := by
    unfold goodR
    rw [List.take_succ_cons, List.drop_succ_cons, List.map_take]
    simp
  rw [e]
  have hl : (rs.take q).length = q := by rw [List.length_take]; omega
  have f := firstN_app (rs.take q) (((rs.map rowT).drop q ++ more).map roadM)
  rw [hl] at f
  refine refL_row (vill_good h0 h1) ?_
  rw [List.map_append, List.map_cons, hy, rows_road fun r hr => hs r (List.mem_of_mem_take hr)]
  exact f
theorem ref_last {n : Int} {rs : List Road} (h0 : 1 ≤ n) (h1 : n < 100) (hs : Short rs) : refL (goodR n rs ++ [("" : Str)]) = (rs.length : Int) + 2 := by
  show refL (headT n :: (rs.map rowT ++ [("" : Str)])) = _
  refine refL_row (vill_good h0 h1) ?_
  rw [List.map_append, rows_road hs, List.map_cons, show roadM "" = none by decide +kernel]
  exact firstN_app rs _
theorem empty_free : 10 ∉ ("" : Str).cps.toList ∧ ("" : Str).length ≤ 5000 := by decide +kernel
theorem what_free : 10 ∉ ("what" : Str).cps.toList ∧ ("what" : Str).length ≤ 5000 := by decide +kernel
theorem what_map (e : Nat) : (List.replicate e [V.str "what"]).flatten = (List.replicate e ("what" : Str)).map V.str := by
  induction e with
  | zero => rfl
  | succ e ih => rw [List.replicate_succ, List.flatten_cons, ih, List.replicate_succ, List.map_cons]; rfl
/-- what a join of free rows gives to be asked -/
theorem ask {rows : List Str} (h : ∀ p ∈ rows, 10 ∉ p.cps.toList ∧ p.length ≤ 5000) (hne : rows ≠ []) (hn : rows.length ≤ 19) :
    (PySem.Txt.join ("\n" : Str) rows).length ≤ 100000 ∧ (PySem.Txt.split (PySem.Txt.join ("\n" : Str) rows) "\n").length ≤ 100 ∧ refM (PySem.Txt.join ("\n" : Str) rows) = refL rows ∧ (rows.map (·.length)).sum + rows.length * ("\n" : Str).length ≤ 16777216 := by
  have a := short_len h hn
  refine ⟨a.1, ?_, ref_join hne fun p hp => (h p hp).1, a.2⟩
  rw [split_rows hne fun p hp => (h p hp).1]
  omega
section
variable {P : Program} {w : World} {K : PySem.W.Frag} {mg : Str → Option Value} {base : Heap} {t : Adr}
theorem ok_law (TT : Txt K mg t) : FnOk P w K mg base CX0 10 t.f_law t.d_law ["_law_script"] (spLaw K) := by
  refine TT.F_law.ok sc_law (fun vs H Q E h => ?_) (fun cdv A outer sh H vs Q E hr h => ?_)
  · obtain ⟨a, ns, rfl, _⟩ := h
    rfl
  · obtain ⟨a, ns, rfl, hS, hlen, k⟩ := h
    refine ⟨_, (pss_cons (ps_set (i := 1) sc_law.nd rfl (Or.inl rfl) (pe_op op_add pe_int (pe_op op_mod (pe_call (ok__law_cell_at TT) (hr.mono (by decide)) rfl TT.m__law_cell_at TT.F__law_cell_at.kp TT.b__law_cell_at .nil pass0 (pa_cons (pv 0) (pa_consC pe_int pa_nil))) pe_int))) (pss_cons (ps_set (i := 2) sc_law.nd rfl (Or.inl rfl) (pe_lst (pa_consB (pe_op op_add_str pe_str (pe_callTy call_str_int rfl TT.z_str WB.bt_str (pa_cons (pv 1) pa_nil))) pa_nil))) (pss_cons (ps_for PassesOwn.never rfl (pi_range1 rfl TT.z_range (pa_consB (pe_op op_sub (pv 1) pe_int) pa_nil)) (pg_name (i := 3) sc_law.nd rfl (Or.inl rfl)) (pss_one (ps_expr (pe_bm PySem.F.plainAttrs_list PySem.F.slot_list_append PySem.F.type_list_append mt_append (pv 2) (pa_consB (pe_op op_add_str (pe_op op_add_str (pe_op op_add_str (pe_op op_add_str (pe_callTy call_str_int rfl TT.z_str WB.bt_str (pa_consB (pe_op op_add (pv 3) pe_int) pa_nil)) pe_str) (pe_callTy call_str_int rfl TT.z_str WB.bt_str (pa_cons (pv 3) pa_nil))) pe_str) (pe_callTy call_str_int rfl TT.z_str WB.bt_str (pa_consB (pe_op op_add pe_int (pe_call (ok__law_draw TT) (hr.mono (by decide)) rfl TT.m__law_draw TT.F__law_draw.kp TT.b__law_draw .nil pass0 (pa_cons (pe_call (ok__law_cell_at TT) (hr.mono (by decide)) rfl TT.m__law_cell_at TT.F__law_cell_at.kp TT.b__law_cell_at .nil pass0 (pa_cons (pv 0) (pa_consC pe_int pa_nil))) (pa_cons (pv 3) (pa_consC pe_int pa_nil))))) pa_nil))) pa_nil))))) (pss_cons (ps_if (pt_cmpR op_ne (pe_call (ok__law_refused TT) (hr.mono (by decide)) rfl TT.m__law_refused TT.F__law_refused.kp TT.b__law_refused .nil pass0 (pa_cons (pe_bm PySem.F.plainAttrs_str PySem.F.slot_str_join PySem.F.type_str_join mt_join pe_str (pa_cons (pv 2) pa_nil)) pa_nil)) pe_int (nomark _)) (pss_one (ps_ret pe_bl)) pss_nil) (pss_cons (ps_for PassesOwn.never rfl (pi_range1 rfl TT.z_range (pa_consC pe_int pa_nil)) (pg_name (i := 3) sc_law.nd rfl (Or.inl rfl)) (pss_cons (ps_set (i := 4) sc_law.nd rfl (Or.inl rfl) (pe_op op_add (pe_call (ok__law_cell_at TT) (hr.mono (by decide)) rfl TT.m__law_cell_at TT.F__law_cell_at.kp TT.b__law_cell_at .nil pass0 (pa_cons (pv 0) (pa_consC pe_int pa_nil))) (pe_op op_mul pe_int (pv 3)))) (pss_cons (ps_set (i := 5) sc_law.nd rfl (Or.inl rfl) (pe_op op_add pe_int (pe_call (ok__law_draw TT) (hr.mono (by decide)) rfl TT.m__law_draw TT.F__law_draw.kp TT.b__law_draw .nil pass0 (pa_cons (pe_call (ok__law_cell_at TT) (hr.mono (by decide)) rfl TT.m__law_cell_at TT.F__law_cell_at.kp TT.b__law_cell_at .nil pass0 (pa_cons (pv 0) (pa_consC pe_int pa_nil))) (pa_cons (pv 3) (pa_cons (pe_callB call_len_seq rfl TT.z_len WB.bt_len (pa_cons (pv 2) pa_nil)) pa_nil)))))) (pss_cons (ps_set (i := 6) sc_law.nd rfl (Or.inl rfl) (pe_call (ok__law_bad_road TT) (hr.mono (by decide)) rfl TT.m__law_bad_road TT.F__law_bad_road.kp TT.b__law_bad_road .nil pass0 (pa_consB (pe_op op_mod (pv 4) pe_int) pa_nil))) (pss_cons (ps_set (i := 7) sc_law.nd rfl (Or.inl rfl) (pe_op op_cat (pe_op op_cat (pe_slice sl_list (pv 2) po_none (po_some (pv 5))) (pe_lst (pa_cons (pv 6) pa_nil))) (pe_slice sl_list (pv 2) (po_some (pv 5)) po_none))) (pss_cons (ps_set (i := 7) sc_law.nd rfl (Or.inl rfl) (pe_op op_cat (pv 7) (pe_op op_mulList (pe_lst (pa_consC pe_str pa_nil)) (pe_op op_mod (pe_op op_fdiv (pv 4) pe_int) pe_int)))) (pss_cons (ps_if (pt_cmpR op_ne (pe_call (ok__law_refused TT) (hr.mono (by decide)) rfl TT.m__law_refused TT.F__law_refused.kp TT.b__law_refused .nil pass0 (pa_cons (pe_bm PySem.F.plainAttrs_str PySem.F.slot_str_join PySem.F.type_str_join mt_join pe_str (pa_cons (pv 7) pa_nil)) pa_nil)) (pe_op op_add (pv 5) pe_int) (nomark _)) (pss_one (ps_ret pe_bl)) pss_nil) (pss_cons (ps_set (i := 6) sc_law.nd rfl (Or.inl rfl) (pe_call (ok__law_bad_head TT) (hr.mono (by decide)) rfl TT.m__law_bad_head TT.F__law_bad_head.kp TT.b__law_bad_head .nil pass0 (pa_consB (pe_op op_mod (pv 4) pe_int) pa_nil))) (pss_one (ps_if (pt_cmpR op_ne (pe_call (ok__law_refused TT) (hr.mono (by decide)) rfl TT.m__law_refused TT.F__law_refused.kp TT.b__law_refused .nil pass0 (pa_cons (pe_bm PySem.F.plainAttrs_str PySem.F.slot_str_join PySem.F.type_str_join mt_join pe_str (pa_consB (pe_op op_cat (pe_lst (pa_cons (pv 6) pa_nil)) (pe_slice sl_list (pv 2) (po_some pe_int) po_none)) pa_nil)) pa_nil)) pe_int (nomark _)) (pss_one (ps_ret pe_bl)) pss_nil)))))))))) (pss_cons (ps_if (pt_cmpR op_ne (pe_call (ok__law_refused TT) (hr.mono (by decide)) rfl TT.m__law_refused TT.F__law_refused.kp TT.b__law_refused .nil pass0 (pa_consB (pe_op op_add_str (pe_bm PySem.F.plainAttrs_str PySem.F.slot_str_join PySem.F.type_str_join mt_join pe_str (pa_cons (pv 2) pa_nil)) pe_str) pa_nil)) (pe_op op_add (pe_callB call_len_seq rfl TT.z_len WB.bt_len (pa_cons (pv 2) pa_nil)) pe_int) (nomark _)) (pss_one (ps_ret pe_bl)) pss_nil) (pss_one (ps_ret (pe_call (ok__law_whole TT) (hr.mono (by decide)) rfl TT.m__law_whole TT.F__law_whole.kp TT.b__law_whole .nil pass0 (pa_consB (pe_op op_mod (pe_call (ok__law_cell_at TT) (hr.mono (by decide)) rfl TT.m__law_cell_at TT.F__law_cell_at.kp TT.b__law_cell_at .nil pass0 (pa_cons (pv 0) (pa_consC pe_int pa_nil))) pe_int) pa_nil)))))))))), ?_⟩
    -- villages = 1 + cell_at(script, 0) % 6
    refine ⟨_, rfl, a, ns, 0, rfl, hS, by decide, fun c0 => ⟨_, _, rfl, rfl, (by show (0 : Int) < 6; decide), _, _, rfl, rfl, ?_⟩⟩
    obtain ⟨n, hn, n1, n6⟩ : ∃ n : Int, 1 + c0 % 6 = n ∧ 1 ≤ n ∧ n ≤ 6 := ⟨_, rfl, by omega, by omega⟩
    have hv : ("villages " : Str).length = 9 := by decide +kernel
    have hln := numT_le (i := 1 + c0 % 6) (by omega) (by omega)
    -- good = ['villages ' + str(villages)]
    refine ⟨_, rfl, 1 + c0 % 6, rfl, log_small (by omega) (by omega), ("villages " : Str), numT (1 + c0 % 6), rfl, rfl, by rw [hv, sizeLine_eq]; omega, by show 1 ≤ sizeLine; decide, fun u hu => ?_⟩
    have e1 : upd H u (.lst [.str (("villages " : Str) ++ numT (1 + c0 % 6))]) u = some (.lst ((goodR n []).map V.str)) := by rw [upd_same, hn]; rfl
    have s1 : Same H (upd H u (.lst [.str (("villages " : Str) ++ numT (1 + c0 % 6))])) := same_new hu
    -- for k in range(villages - 1)
    refine ⟨_, rfl, _, _, rfl, rfl, n - 1, (by subst hn; rfl), by omega, by omega, for_range (lo := 0) (n := (n - 1).toNat) (fun i σ H' => (∃ v3, σ = [some (.ref a), some (.int n), some (.ref u), v3, none, none, none, none]) ∧ Same H H' ∧ ∃ rs : List Road, rs.length = i ∧ Chain rs ∧ H' u = some (.lst ((goodR n rs).map V.str)))
      ⟨⟨none, by subst hn; rfl⟩, s1, [], rfl, Chain.nil, e1⟩ ?_ ?_⟩
    · rintro i σ H2 hi ⟨⟨v3, rfl⟩, s2, rs, hl, hc, hu2⟩
      have b1 := numT_le (i := 0 + (i : Int) + 1) (by omega) (by omega)
      have b2 := numT_le (i := 0 + (i : Int)) (by omega) (by omega)
      refine ⟨_, rfl, .inl ⟨rfl, _, SqL.of hu2⟩, _, rfl, _, _, rfl, rfl, 0 + (i : Int) + 1, rfl, log_small (by omega) (by omega), numT (0 + (i : Int) + 1), ("-" : Str), rfl, rfl, by rw [len_dash, sizeLine_eq]; omega, _, rfl, 0 + (i : Int), rfl, log_small (by omega) (by omega), _, numT (0 + (i : Int)), rfl, rfl, by rw [len_app, len_dash, sizeLine_eq]; omega, _, (" " : Str), rfl, rfl, by rw [len_app, len_app, len_dash, len_blank, sizeLine_eq]; omega, ?_⟩
      refine ⟨_, rfl, a, ns, 0, rfl, s2.seq hS, by decide, fun c => ⟨_, rfl, c, 0 + (i : Int), 1000000, rfl, by omega, by omega, by decide, fun r H3 r0 r1 s3 => ?_⟩⟩
      have b3 := numT_le (i := 1 + r) (by omega) (by omega)
      refine ⟨_, _, rfl, rfl, 1 + r, rfl, log_small (by omega) (by omega), _, numT (1 + r), rfl, rfl, by rw [len_app, len_app, len_app, len_dash, len_blank, sizeLine_eq]; omega, u, _, _, rfl, rfl, s3 _ _ hu2, ?_, ?_⟩
      · rw [List.length_map]; unfold goodR; rw [List.length_cons, List.length_map, sizeLine_eq]; omega
      · refine ⟨⟨_, rfl⟩, same_upd (s2.trans s3) hu, rs ++ [((rs.length : Int) + 1, (rs.length : Int), 1 + r)], by rw [List.length_append, hl]; rfl, hc.snoc (by omega) (by omega), ?_⟩
        rw [upd_same, hl, Int.zero_add]
        unfold goodR
        rw [List.map_append, List.map_cons, List.map_cons, List.map_append]
        rfl
    rintro σ H2 ⟨⟨v3, rfl⟩, s2, rs, hl, hc, hu2⟩
    have hrl : (rs.length : Int) + 1 = n := by omega
    have hT := hc.tree hrl (by omega)
    have hs := hc.short (by omega)
    have gf := good_free (n := n) (rs := rs) (by omega) (by omega) hs
    have gl : (goodR n rs).length = rs.length + 1 := by unfold goodR; rw [List.length_cons, List.length_map]
    have hS2 := s2.seq hS
    clear e1 s1 s2 hS
    -- if refused('\n'.join(good)) != 0
    obtain ⟨q1, q2, q3, q4⟩ := ask gf (by unfold goodR; simp) (by omega)
    have r0 : refL (goodR n rs) = 0 := refL_tree (vill_good n1 (by omega)) (rows_road hs) hT
    refine ⟨rfl, _, rfl, ("\n" : Str), u, _, rfl, rfl, SqL.of hu2, q4, _, rfl, q1, q2, fun H3 s3 => ⟨rfl, _, rfl, ite_f (by rw [q3, r0]; rfl) ?_⟩⟩
    have hu3 := s3 _ _ hu2
    have hS3 := s3.seq hS2
    -- for k in range(4)
    refine ⟨4, rfl, by decide, by decide, for_range (lo := 0) (n := 4) (fun i σ H' => (∃ v3 v4 v5 v6 v7, σ = [some (.ref a), some (.int n), some (.ref u), v3, v4, v5, v6, v7]) ∧ Same H3 H') ⟨⟨_, _, _, _, _, rfl⟩, Same.refl _⟩ ?_ ?_⟩
    · rintro i σ H4 hi ⟨⟨v3, v4, v5, v6, v7, rfl⟩, s4⟩
      -- cell, place
      refine ⟨_, rfl, a, ns, 1, rfl, s4.seq hS3, by decide, fun c1 => ⟨_, rfl, _, _, rfl, rfl, .inl ⟨by decide, by decide⟩, _, _, rfl, rfl, ?_⟩⟩
      refine ⟨_, rfl, a, ns, 2, rfl, s4.seq hS3, by decide, fun c2 => ⟨_, rfl, _, rfl, u, _, rfl, .inl (SqL.of (s4 _ _ hu3)), c2, 0 + (i : Int), _, rfl, by omega, by omega, by rw [List.length_map, gl]; omega, fun r H5 r0 r1 s5 => ⟨_, _, rfl, rfl, ?_⟩⟩⟩
      rw [List.length_map, gl] at r1
      obtain ⟨q, rfl⟩ := Int.eq_ofNat_of_zero_le r0
      have hq : q ≤ rs.length := by omega
      have eq1 : (1 + (q : Int)) = ((q + 1 : Nat) : Int) := by omega
      have s35 := s4.trans s5
      -- odd = bad_road(cell % 31)
      refine ⟨_, rfl, _, _, rfl, rfl, (by show (0 : Int) < 31; decide), _, rfl, Int.emod_nonneg _ (by decide), Int.emod_lt_of_pos _ (by decide), fun y H6 hy s6 => ?_⟩
      have s36 := s35.trans s6
      have hu6 := s36 _ _ hu3
      -- bad = good[:place] + [odd] + good[place:]
      refine ⟨_, rfl, _, rfl, 1 + (q : Int), rfl, u, _, rfl, SqL.of hu6, fun l1 g1 => ?_⟩
      have k1 : cutV ((goodR n rs).map V.str) none (some (1 + (q : Int))) = ((goodR n rs).take (q + 1)).map V.str := by rw [eq1, cut_hi _ _ (by rw [List.length_map, gl]; omega), List.map_take]
      have k2 : cutV ((goodR n rs).map V.str) (some (1 + (q : Int))) none = ((goodR n rs).drop (q + 1)).map V.str := by rw [eq1, cut_lo _ _ (by rw [List.length_map, gl]; omega), List.map_drop]
      have lt1 : ((goodR n rs).take (q + 1)).length ≤ 6 := by rw [List.length_take, gl]; omega
      have lt2 : ((goodR n rs).drop (q + 1)).length ≤ 6 := by rw [List.length_drop, gl]; omega
      rw [k1]
      refine ⟨_, rfl, by show 1 ≤ sizeLine; decide, fun l2 g2 => ⟨l1, l2, _, _, rfl, rfl, same_new g2 _ _ upd_same, upd_same, by rw [List.length_map, sizeLine_eq]; simp only [List.length_cons, List.length_nil]; omega, fun l3 g3 => ?_⟩⟩
      rw [show ((goodR n rs).take (q + 1)).map V.str ++ [.str y] = ((goodR n rs).take (q + 1) ++ [y]).map V.str by rw [List.map_append]; rfl]
      generalize hH7 : upd _ l3 (.lst (((goodR n rs).take (q + 1) ++ [y]).map V.str)) = H7
      have e7 : H7 l3 = some (.lst (((goodR n rs).take (q + 1) ++ [y]).map V.str)) := by rw [← hH7]; exact upd_same
      have s7 : Same H6 H7 := by rw [← hH7]; exact ((same_new g1).trans (same_new g2)).trans (same_new g3)
      clear hH7 g3 g2 g1
      refine ⟨_, rfl, _, rfl, 1 + (q : Int), rfl, u, _, rfl, SqL.of (s7 _ _ hu6), fun l4 g4 => ?_⟩
      rw [k2]
      refine ⟨l3, l4, _, _, rfl, rfl, same_new g4 _ _ e7, upd_same, by rw [List.length_map, List.length_map, List.length_append, sizeLine_eq]; simp only [List.length_cons, List.length_nil]; omega, fun l5 g5 => ?_⟩
      rw [← List.map_append]
      generalize hH8 : upd _ l5 (.lst (((goodR n rs).take (q + 1) ++ [y] ++ (goodR n rs).drop (q + 1)).map V.str)) = H8
      have e8 : H8 l5 = some (.lst (((goodR n rs).take (q + 1) ++ [y] ++ (goodR n rs).drop (q + 1)).map V.str)) := by rw [← hH8]; exact upd_same
      have s8 : Same H6 H8 := by rw [← hH8]; exact (s7.trans (same_new g4)).trans (same_new g5)
      clear hH8 g5 g4 e7 s7
      -- bad = bad + ['what'] * (cell // 31 % 2)
      refine ⟨_, rfl, by show 1 ≤ sizeLine; decide, fun l6 g6 => ⟨_, rfl, _, _, rfl, rfl, ⟨by decide, by decide⟩, _, _, rfl, rfl, (by show (0 : Int) < 2; decide), l6, [.str "what"], _, rfl, rfl, upd_same, by decide, by decide, Int.emod_nonneg _ (by decide), by have := Int.emod_lt_of_pos ((c1 + 7 * (0 + (i : Int))) / 31) (show (0 : Int) < 2 by decide); omega, fun l7 g7 => ?_⟩⟩
      have hw2 : ((c1 + 7 * (0 + (i : Int))) / 31 % 2).toNat ≤ 2 := by have := Int.emod_lt_of_pos ((c1 + 7 * (0 + (i : Int))) / 31) (show (0 : Int) < 2 by decide); omega
      rw [what_map]
      generalize ((c1 + 7 * (0 + (i : Int))) / 31 % 2).toNat = e at hw2 ⊢
      refine ⟨l5, l7, _, _, rfl, rfl, same_new g7 _ _ (same_new g6 _ _ e8), upd_same, by rw [List.length_map, List.length_map, List.length_append, List.length_append, List.length_replicate, sizeLine_eq]; simp only [List.length_cons, List.length_nil]; omega, fun l8 g8 => ?_⟩
      rw [← List.map_append]
      generalize hrows : ((goodR n rs).take (q + 1) ++ [y] ++ (goodR n rs).drop (q + 1)) ++ List.replicate e ("what" : Str) = rows
      generalize hH9 : upd _ l8 (.lst (rows.map V.str)) = H9
      have e9 : H9 l8 = some (.lst (rows.map V.str)) := by rw [← hH9]; exact upd_same
      have s9 : Same H6 H9 := by rw [← hH9]; exact ((s8.trans (same_new g6)).trans (same_new g7)).trans (same_new g8)
      clear hH9 g8 g7 g6 e8 s8
      have fr : ∀ p ∈ rows, 10 ∉ p.cps.toList ∧ p.length ≤ 5000 := fun p hp => by
        rw [← hrows] at hp
        simp only [List.mem_append, List.mem_singleton] at hp
        rcases hp with ((hp | hp) | hp) | hp
        · exact gf p (List.mem_of_mem_take hp)
        · rw [hp]; exact hy.2
        · exact gf p (List.mem_of_mem_drop hp)
        · rw [List.eq_of_mem_replicate hp]; exact what_free
      have rl : rows.length ≤ 19 := by
        rw [← hrows, List.length_append, List.length_append, List.length_append, List.length_replicate]
        simp only [List.length_cons, List.length_nil]
        omega
      have rv : refL rows = (q : Int) + 2 := by rw [← hrows]; exact ref_bad n1 (by omega) hs hq hy.1
      obtain ⟨p1, p2, p3, p4⟩ := ask fr (by rw [← hrows]; simp) rl
      -- if refused('\n'.join(bad)) != place + 1
      refine ⟨rfl, _, rfl, ("\n" : Str), l8, _, rfl, rfl, SqL.of e9, p4, _, rfl, p1, p2, fun Ha sa => ⟨_, rfl, _, _, rfl, rfl, rfl, _, rfl, ite_f (by rw [p3, rv]; show (!decide (V.int ((q : Int) + 2) = V.int (1 + (q : Int) + 1))) = false; rw [show 1 + (q : Int) + 1 = (q : Int) + 2 by omega]; simp) ?_⟩⟩
      have s3a := (s36.trans s9).trans sa
      clear p1 p2 p3 p4 rv rl fr e9 hrows
      -- odd = bad_head(cell % 14)
      refine ⟨_, rfl, _, _, rfl, rfl, (by show (0 : Int) < 14; decide), _, rfl, Int.emod_nonneg _ (by decide), Int.emod_lt_of_pos _ (by decide), fun z Hb hz sb => ?_⟩
      have s3b := s3a.trans sb
      -- if refused('\n'.join([odd] + good[1:])) != 1
      refine ⟨rfl, _, rfl, by show 1 ≤ sizeLine; decide, fun m1 f1 => ⟨_, rfl, 1, rfl, u, _, rfl, SqL.of (same_new f1 _ _ (s3b _ _ hu3)), fun m2 f2 => ?_⟩⟩
      rw [show cutV ((goodR n rs).map V.str) (some 1) none = (rs.map rowT).map V.str from cut_tail _ _]
      refine ⟨m1, m2, _, _, rfl, rfl, same_new f2 _ _ upd_same, upd_same, by rw [List.length_map, List.length_map, sizeLine_eq]; simp only [List.length_cons, List.length_nil]; omega, fun m3 f3 => ?_⟩
      rw [show [V.str z] ++ (rs.map rowT).map V.str = (z :: rs.map rowT).map V.str from rfl]
      have fz : ∀ p ∈ z :: rs.map rowT, 10 ∉ p.cps.toList ∧ p.length ≤ 5000 := fun p hp => by
        rcases List.mem_cons.mp hp with rfl | hp
        · exact hz.2
        · exact rows_free hs p hp
      obtain ⟨p1, p2, p3, p4⟩ := ask fz (by simp) (by rw [List.length_cons, List.length_map]; omega)
      refine ⟨("\n" : Str), m3, _, rfl, rfl, SqL.of upd_same, p4, _, rfl, p1, p2, fun Hc sc => ⟨rfl, _, rfl, ite_f (by rw [p3, refL_head hz.1]; rfl) ?_⟩⟩
      exact ⟨⟨_, _, _, _, _, rfl⟩, (((s3b.trans (same_new f1)).trans (same_new f2)).trans (same_new f3)).trans sc⟩
    rintro σ H4 ⟨⟨v3, v4, v5, v6, v7, rfl⟩, s4⟩
    -- if refused('\n'.join(good) + '\n') != len(good) + 1
    have fz : ∀ p ∈ goodR n rs ++ [("" : Str)], 10 ∉ p.cps.toList ∧ p.length ≤ 5000 := fun p hp => by
      rcases List.mem_append.mp hp with hp | hp
      · exact gf p hp
      · rw [List.mem_singleton.mp hp]; exact empty_free
    obtain ⟨p1, p2, p3, p4⟩ := ask fz (by simp) (by rw [List.length_append, gl]; simp only [List.length_cons, List.length_nil]; omega)
    rw [← join_line (by unfold goodR; simp)] at p1 p2 p3
    refine ⟨rfl, _, rfl, ("\n" : Str), u, _, rfl, rfl, SqL.of (s4 _ _ hu3), q4, _, ("\n" : Str), rfl, rfl, by rw [line_one, sizeLine_eq]; omega, _, rfl, p1, p2, fun H5 s5 => ⟨_, rfl, u, _, rfl, .inl (SqL.of (s5 _ _ (s4 _ _ hu3))), _, _, rfl, rfl, rfl, _, rfl, ite_f ?_ ?_⟩⟩
    · rw [p3, ref_last n1 (by omega) hs, List.length_map, gl]
      have : (((rs.length + 1 : Nat) : Int) + 1) = (rs.length : Int) + 2 := by push_cast; omega
      show (!decide (V.int ((rs.length : Int) + 2) = V.int (((rs.length + 1 : Nat) : Int) + 1))) = false
      rw [this]
      simp
    -- return whole(cell_at(script, 3) % 1000000)
    exact ⟨_, rfl, a, ns, 3, rfl, (s4.trans s5).seq hS3, by decide, fun c3 => ⟨_, _, rfl, rfl, (by show (0 : Int) < 1000000; decide), _, rfl, Int.emod_nonneg _ (by decide), Int.emod_lt_of_pos _ (by decide), fun H' => k H'⟩⟩
end
end WR
namespace WR
open PySem L2
theorem kitCls_of {K : PySem.W.Frag} {t : Value} {C : Addr} {b : Bool} (h : PySem.W.isClsIn K C = true) (y : PySem.W.typeIn K (.ref C) = some (.type "type")) (e : PySem.W.subIn K t (.ref C) = some b) : PySem.W.kitCls K t (.ref C) = some b := by
  have h : (PySem.W.clsIn K C).isSome = true := h
  unfold PySem.W.kitCls
  show (if _ = true then PySem.W.subIn K t (.ref C) else none) = _
  rw [h, y, if_pos (by rfl)]
  exact e
theorem meta_val : PySem.W.kitMeta "ValueError" = true := by decide +kernel
theorem kitOne_val {K : PySem.W.Frag} {C : Addr} (e : PySem.W.subIn K (.ref C) (.type "ValueError") = some true) : PySem.W.kitOne K (.ref C) (.type "ValueError") = some true := by
  unfold PySem.W.kitOne
  rw [if_neg (by intro z; cases z)]
  unfold PySem.W.kitCls
  show (if _ = true then PySem.W.subIn K (.ref C) (.type "ValueError") else none) = _
  rw [if_pos meta_val]
  exact e
theorem binds1 {K : PySem.W.Frag} {x qual a0 : Str} {st : Stmt} {f : Addr} {fd : FuncData} (F : Fun K x qual st f fd) (h : ∀ (kV doc pm : Value) (an : Option Addr) (cdv ct u0 : Value), bindArgs (PySem.W.fnOf x qual (defArgs st) (defBody st) (defScope st) .none kV doc pm an cdv ct) ⟨[u0], []⟩ = pure [(a0, u0)]) : Binds K fd [a0] [] :=
  F.binds (ps := [a0]) fun kV doc pm an cdv ct us hl => match us, hl with | [u0], _ => h kV doc pm an cdv ct u0
theorem binds2 {K : PySem.W.Frag} {x qual a0 a1 : Str} {st : Stmt} {f : Addr} {fd : FuncData} (F : Fun K x qual st f fd) (h : ∀ (kV doc pm : Value) (an : Option Addr) (cdv ct u0 u1 : Value), bindArgs (PySem.W.fnOf x qual (defArgs st) (defBody st) (defScope st) .none kV doc pm an cdv ct) ⟨[u0, u1], []⟩ = pure [(a0, u0), (a1, u1)]) : Binds K fd [a0, a1] [] :=
  F.binds (ps := [a0, a1]) fun kV doc pm an cdv ct us hl => match us, hl with | [u0, u1], _ => h kV doc pm an cdv ct u0 u1
theorem binds3 {K : PySem.W.Frag} {x qual a0 a1 a2 : Str} {st : Stmt} {f : Addr} {fd : FuncData} (F : Fun K x qual st f fd) (h : ∀ (kV doc pm : Value) (an : Option Addr) (cdv ct u0 u1 u2 : Value), bindArgs (PySem.W.fnOf x qual (defArgs st) (defBody st) (defScope st) .none kV doc pm an cdv ct) ⟨[u0, u1, u2], []⟩ = pure [(a0, u0), (a1, u1), (a2, u2)]) : Binds K fd [a0, a1, a2] [] :=
  F.binds (ps := [a0, a1, a2]) fun kV doc pm an cdv ct us hl => match us, hl with | [u0, u1, u2], _ => h kV doc pm an cdv ct u0 u1 u2
theorem all_mk {l : PySem.W.OpenLaw} {w : World} {K : PySem.W.Frag} {h : Heap} {mg : Str → Option Value} {fa : Addr} (X : K.In h) (G : h.Ns mainGlobals mg) (hfa : mg "law" = some (.ref fa))
    {f_BadRow_init : Addr} {oc_0 kV_0 dc_0 pm_0 cd_0 ct_0 : Value} {od_0 an_0 : Option Addr} {sl_0 : Array (Option Value)}
    {f_is_number : Addr} {oc_1 kV_1 dc_1 pm_1 cd_1 ct_1 : Value} {od_1 an_1 : Option Addr} {sl_1 : Array (Option Value)}
    {f_is_whole : Addr} {oc_2 kV_2 dc_2 pm_2 cd_2 ct_2 : Value} {od_2 an_2 : Option Addr} {sl_2 : Array (Option Value)}
    {f_is_road : Addr} {oc_3 kV_3 dc_3 pm_3 cd_3 ct_3 : Value} {od_3 an_3 : Option Addr} {sl_3 : Array (Option Value)}
    {f_is_tree : Addr} {oc_4 kV_4 dc_4 pm_4 cd_4 ct_4 : Value} {od_4 an_4 : Option Addr} {sl_4 : Array (Option Value)}
    {f_steps : Addr} {oc_5 kV_5 dc_5 pm_5 cd_5 ct_5 : Value} {od_5 an_5 : Option Addr} {sl_5 : Array (Option Value)}
    {f_reached : Addr} {oc_6 kV_6 dc_6 pm_6 cd_6 ct_6 : Value} {od_6 an_6 : Option Addr} {sl_6 : Array (Option Value)}
    {f_Tree_init : Addr} {oc_7 kV_7 dc_7 pm_7 cd_7 ct_7 : Value} {od_7 an_7 : Option Addr} {sl_7 : Array (Option Value)}
    {f_Tree_roads : Addr} {oc_8 kV_8 dc_8 pm_8 cd_8 ct_8 : Value} {od_8 an_8 : Option Addr} {sl_8 : Array (Option Value)}
    {f_number_of : Addr} {oc_9 kV_9 dc_9 pm_9 cd_9 ct_9 : Value} {od_9 an_9 : Option Addr} {sl_9 : Array (Option Value)}
    {f_villages_of : Addr} {oc_10 kV_10 dc_10 pm_10 cd_10 ct_10 : Value} {od_10 an_10 : Option Addr} {sl_10 : Array (Option Value)}
    {f_road_of : Addr} {oc_11 kV_11 dc_11 pm_11 cd_11 ct_11 : Value} {od_11 an_11 : Option Addr} {sl_11 : Array (Option Value)}
    {f_read : Addr} {oc_12 kV_12 dc_12 pm_12 cd_12 ct_12 : Value} {od_12 an_12 : Option Addr} {sl_12 : Array (Option Value)}
    {f__law_cell_at : Addr} {oc_13 kV_13 dc_13 pm_13 cd_13 ct_13 : Value} {od_13 an_13 : Option Addr} {sl_13 : Array (Option Value)}
    {f__law_draw : Addr} {oc_14 kV_14 dc_14 pm_14 cd_14 ct_14 : Value} {od_14 an_14 : Option Addr} {sl_14 : Array (Option Value)}
    {f__law_refused : Addr} {oc_15 kV_15 dc_15 pm_15 cd_15 ct_15 : Value} {od_15 an_15 : Option Addr} {sl_15 : Array (Option Value)}
    {f__law_bad_road : Addr} {oc_16 kV_16 dc_16 pm_16 cd_16 ct_16 : Value} {od_16 an_16 : Option Addr} {sl_16 : Array (Option Value)}
    {f__law_bad_head : Addr} {oc_17 kV_17 dc_17 pm_17 cd_17 ct_17 : Value} {od_17 an_17 : Option Addr} {sl_17 : Array (Option Value)}
    {f__law_whole : Addr} {oc_18 kV_18 dc_18 pm_18 cd_18 ct_18 : Value} {od_18 an_18 : Option Addr} {sl_18 : Array (Option Value)}
    {f_law : Addr} {oc_19 kV_19 dc_19 pm_19 cd_19 ct_19 : Value} {od_19 an_19 : Option Addr} {sl_19 : Array (Option Value)}
    {C_Tree : Addr}
    {C_RoadError : Addr}
    {C_BadTree : Addr}
    {C_NoVillage : Addr}
    {C_NoRoad : Addr}
    {C_BadNumber : Addr}
    {C_BadRow : Addr}
    {t_MOST_VILLAGES : Tok}
    {t_MOST_LENGTH : Tok}
    {t_FIGURES : Tok}
    {t_MOST_FIGURES : Tok}
    (aC_Tree : PySem.W.nsIn K mainGlobals "Tree" = some (some (.ref C_Tree)))
    (aC_RoadError : PySem.W.nsIn K mainGlobals "RoadError" = some (some (.ref C_RoadError)))
    (aC_BadTree : PySem.W.nsIn K mainGlobals "BadTree" = some (some (.ref C_BadTree)))
    (aC_NoVillage : PySem.W.nsIn K mainGlobals "NoVillage" = some (some (.ref C_NoVillage)))
    (aC_NoRoad : PySem.W.nsIn K mainGlobals "NoRoad" = some (some (.ref C_NoRoad)))
    (aC_BadNumber : PySem.W.nsIn K mainGlobals "BadNumber" = some (some (.ref C_BadNumber)))
    (aC_BadRow : PySem.W.nsIn K mainGlobals "BadRow" = some (some (.ref C_BadRow)))
    (a_BadRow_init : PySem.W.findIn K (.ref C_BadRow) "__init__" = some (some (.ref f_BadRow_init)))
    (i_BadRow_init : PySem.W.isFn K (.ref f_BadRow_init) = true)
    (l_BadRow_init : K.lookup f_BadRow_init = some ⟨oc_0, od_0, .func (PySem.W.fnOf "__init__" "BadRow.__init__" (defArgs s_BadRow_init) (defBody s_BadRow_init) (defScope s_BadRow_init) .none kV_0 dc_0 pm_0 an_0 cd_0 ct_0), sl_0⟩)
    (c_BadRow_init : PySem.W.codeIn K cd_0 "BadRow.__init__" = true)
    (k_BadRow_init : PySem.W.keepIn K (.ref f_BadRow_init) = true)
    (a_is_number : PySem.W.nsIn K mainGlobals "is_number" = some (some (.ref f_is_number)))
    (l_is_number : K.lookup f_is_number = some ⟨oc_1, od_1, .func (PySem.W.fnOf "is_number" "is_number" (defArgs s_is_number) (defBody s_is_number) (defScope s_is_number) .none kV_1 dc_1 pm_1 an_1 cd_1 ct_1), sl_1⟩)
    (c_is_number : PySem.W.codeIn K cd_1 "is_number" = true)
    (k_is_number : PySem.W.keepIn K (.ref f_is_number) = true)
    (a_is_whole : PySem.W.nsIn K mainGlobals "is_whole" = some (some (.ref f_is_whole)))
    (l_is_whole : K.lookup f_is_whole = some ⟨oc_2, od_2, .func (PySem.W.fnOf "is_whole" "is_whole" (defArgs s_is_whole) (defBody s_is_whole) (defScope s_is_whole) .none kV_2 dc_2 pm_2 an_2 cd_2 ct_2), sl_2⟩)
    (c_is_whole : PySem.W.codeIn K cd_2 "is_whole" = true)
    (k_is_whole : PySem.W.keepIn K (.ref f_is_whole) = true)
    (a_is_road : PySem.W.nsIn K mainGlobals "is_road" = some (some (.ref f_is_road)))
    (l_is_road : K.lookup f_is_road = some ⟨oc_3, od_3, .func (PySem.W.fnOf "is_road" "is_road" (defArgs s_is_road) (defBody s_is_road) (defScope s_is_road) .none kV_3 dc_3 pm_3 an_3 cd_3 ct_3), sl_3⟩)
    (c_is_road : PySem.W.codeIn K cd_3 "is_road" = true)
    (k_is_road : PySem.W.keepIn K (.ref f_is_road) = true)
    (a_is_tree : PySem.W.nsIn K mainGlobals "is_tree" = some (some (.ref f_is_tree)))
    (l_is_tree : K.lookup f_is_tree = some ⟨oc_4, od_4, .func (PySem.W.fnOf "is_tree" "is_tree" (defArgs s_is_tree) (defBody s_is_tree) (defScope s_is_tree) .none kV_4 dc_4 pm_4 an_4 cd_4 ct_4), sl_4⟩)
    (c_is_tree : PySem.W.codeIn K cd_4 "is_tree" = true)
    (k_is_tree : PySem.W.keepIn K (.ref f_is_tree) = true)
    (a_steps : PySem.W.nsIn K mainGlobals "steps" = some (some (.ref f_steps)))
    (l_steps : K.lookup f_steps = some ⟨oc_5, od_5, .func (PySem.W.fnOf "steps" "steps" (defArgs s_steps) (defBody s_steps) (defScope s_steps) .none kV_5 dc_5 pm_5 an_5 cd_5 ct_5), sl_5⟩)
    (c_steps : PySem.W.codeIn K cd_5 "steps" = true)
    (k_steps : PySem.W.keepIn K (.ref f_steps) = true)
    (a_reached : PySem.W.nsIn K mainGlobals "reached" = some (some (.ref f_reached)))
    (l_reached : K.lookup f_reached = some ⟨oc_6, od_6, .func (PySem.W.fnOf "reached" "reached" (defArgs s_reached) (defBody s_reached) (defScope s_reached) .none kV_6 dc_6 pm_6 an_6 cd_6 ct_6), sl_6⟩)
    (c_reached : PySem.W.codeIn K cd_6 "reached" = true)
    (k_reached : PySem.W.keepIn K (.ref f_reached) = true)
    (a_Tree_init : PySem.W.findIn K (.ref C_Tree) "__init__" = some (some (.ref f_Tree_init)))
    (i_Tree_init : PySem.W.isFn K (.ref f_Tree_init) = true)
    (l_Tree_init : K.lookup f_Tree_init = some ⟨oc_7, od_7, .func (PySem.W.fnOf "__init__" "Tree.__init__" (defArgs s_Tree_init) (defBody s_Tree_init) (defScope s_Tree_init) .none kV_7 dc_7 pm_7 an_7 cd_7 ct_7), sl_7⟩)
    (c_Tree_init : PySem.W.codeIn K cd_7 "Tree.__init__" = true)
    (k_Tree_init : PySem.W.keepIn K (.ref f_Tree_init) = true)
    (a_Tree_roads : PySem.W.findIn K (.ref C_Tree) "roads" = some (some (.ref f_Tree_roads)))
    (i_Tree_roads : PySem.W.isFn K (.ref f_Tree_roads) = true)
    (l_Tree_roads : K.lookup f_Tree_roads = some ⟨oc_8, od_8, .func (PySem.W.fnOf "roads" "Tree.roads" (defArgs s_Tree_roads) (defBody s_Tree_roads) (defScope s_Tree_roads) .none kV_8 dc_8 pm_8 an_8 cd_8 ct_8), sl_8⟩)
    (c_Tree_roads : PySem.W.codeIn K cd_8 "Tree.roads" = true)
    (k_Tree_roads : PySem.W.keepIn K (.ref f_Tree_roads) = true)
    (a_number_of : PySem.W.nsIn K mainGlobals "number_of" = some (some (.ref f_number_of)))
    (l_number_of : K.lookup f_number_of = some ⟨oc_9, od_9, .func (PySem.W.fnOf "number_of" "number_of" (defArgs s_number_of) (defBody s_number_of) (defScope s_number_of) .none kV_9 dc_9 pm_9 an_9 cd_9 ct_9), sl_9⟩)
    (c_number_of : PySem.W.codeIn K cd_9 "number_of" = true)
    (k_number_of : PySem.W.keepIn K (.ref f_number_of) = true)
    (a_villages_of : PySem.W.nsIn K mainGlobals "villages_of" = some (some (.ref f_villages_of)))
    (l_villages_of : K.lookup f_villages_of = some ⟨oc_10, od_10, .func (PySem.W.fnOf "villages_of" "villages_of" (defArgs s_villages_of) (defBody s_villages_of) (defScope s_villages_of) .none kV_10 dc_10 pm_10 an_10 cd_10 ct_10), sl_10⟩)
    (c_villages_of : PySem.W.codeIn K cd_10 "villages_of" = true)
    (k_villages_of : PySem.W.keepIn K (.ref f_villages_of) = true)
    (a_road_of : PySem.W.nsIn K mainGlobals "road_of" = some (some (.ref f_road_of)))
    (l_road_of : K.lookup f_road_of = some ⟨oc_11, od_11, .func (PySem.W.fnOf "road_of" "road_of" (defArgs s_road_of) (defBody s_road_of) (defScope s_road_of) .none kV_11 dc_11 pm_11 an_11 cd_11 ct_11), sl_11⟩)
    (c_road_of : PySem.W.codeIn K cd_11 "road_of" = true)
    (k_road_of : PySem.W.keepIn K (.ref f_road_of) = true)
    (a_read : PySem.W.nsIn K mainGlobals "read" = some (some (.ref f_read)))
    (l_read : K.lookup f_read = some ⟨oc_12, od_12, .func (PySem.W.fnOf "read" "read" (defArgs s_read) (defBody s_read) (defScope s_read) .none kV_12 dc_12 pm_12 an_12 cd_12 ct_12), sl_12⟩)
    (c_read : PySem.W.codeIn K cd_12 "read" = true)
    (k_read : PySem.W.keepIn K (.ref f_read) = true)
    (a__law_cell_at : PySem.W.nsIn K mainGlobals "_law_cell_at" = some (some (.ref f__law_cell_at)))
    (l__law_cell_at : K.lookup f__law_cell_at = some ⟨oc_13, od_13, .func (PySem.W.fnOf "_law_cell_at" "_law_cell_at" (defArgs s__law_cell_at) (defBody s__law_cell_at) (defScope s__law_cell_at) .none kV_13 dc_13 pm_13 an_13 cd_13 ct_13), sl_13⟩)
    (c__law_cell_at : PySem.W.codeIn K cd_13 "_law_cell_at" = true)
    (k__law_cell_at : PySem.W.keepIn K (.ref f__law_cell_at) = true)
    (a__law_draw : PySem.W.nsIn K mainGlobals "_law_draw" = some (some (.ref f__law_draw)))
    (l__law_draw : K.lookup f__law_draw = some ⟨oc_14, od_14, .func (PySem.W.fnOf "_law_draw" "_law_draw" (defArgs s__law_draw) (defBody s__law_draw) (defScope s__law_draw) .none kV_14 dc_14 pm_14 an_14 cd_14 ct_14), sl_14⟩)
    (c__law_draw : PySem.W.codeIn K cd_14 "_law_draw" = true)
    (k__law_draw : PySem.W.keepIn K (.ref f__law_draw) = true)
    (a__law_refused : PySem.W.nsIn K mainGlobals "_law_refused" = some (some (.ref f__law_refused)))
    (l__law_refused : K.lookup f__law_refused = some ⟨oc_15, od_15, .func (PySem.W.fnOf "_law_refused" "_law_refused" (defArgs s__law_refused) (defBody s__law_refused) (defScope s__law_refused) .none kV_15 dc_15 pm_15 an_15 cd_15 ct_15), sl_15⟩)
    (c__law_refused : PySem.W.codeIn K cd_15 "_law_refused" = true)
    (k__law_refused : PySem.W.keepIn K (.ref f__law_refused) = true)
    (a__law_bad_road : PySem.W.nsIn K mainGlobals "_law_bad_road" = some (some (.ref f__law_bad_road)))
    (l__law_bad_road : K.lookup f__law_bad_road = some ⟨oc_16, od_16, .func (PySem.W.fnOf "_law_bad_road" "_law_bad_road" (defArgs s__law_bad_road) (defBody s__law_bad_road) (defScope s__law_bad_road) .none kV_16 dc_16 pm_16 an_16 cd_16 ct_16), sl_16⟩)
    (c__law_bad_road : PySem.W.codeIn K cd_16 "_law_bad_road" = true)
    (k__law_bad_road : PySem.W.keepIn K (.ref f__law_bad_road) = true)
    (a__law_bad_head : PySem.W.nsIn K mainGlobals "_law_bad_head" = some (some (.ref f__law_bad_head)))
    (l__law_bad_head : K.lookup f__law_bad_head = some ⟨oc_17, od_17, .func (PySem.W.fnOf "_law_bad_head" "_law_bad_head" (defArgs s__law_bad_head) (defBody s__law_bad_head) (defScope s__law_bad_head) .none kV_17 dc_17 pm_17 an_17 cd_17 ct_17), sl_17⟩)
    (c__law_bad_head : PySem.W.codeIn K cd_17 "_law_bad_head" = true)
    (k__law_bad_head : PySem.W.keepIn K (.ref f__law_bad_head) = true)
    (a__law_whole : PySem.W.nsIn K mainGlobals "_law_whole" = some (some (.ref f__law_whole)))
    (l__law_whole : K.lookup f__law_whole = some ⟨oc_18, od_18, .func (PySem.W.fnOf "_law_whole" "_law_whole" (defArgs s__law_whole) (defBody s__law_whole) (defScope s__law_whole) .none kV_18 dc_18 pm_18 an_18 cd_18 ct_18), sl_18⟩)
    (c__law_whole : PySem.W.codeIn K cd_18 "_law_whole" = true)
    (k__law_whole : PySem.W.keepIn K (.ref f__law_whole) = true)
    (a_law : PySem.W.nsIn K mainGlobals "law" = some (some (.ref f_law)))
    (l_law : K.lookup f_law = some ⟨oc_19, od_19, .func (PySem.W.fnOf "law" "law" (defArgs s_law) (defBody s_law) (defScope s_law) .none kV_19 dc_19 pm_19 an_19 cd_19 ct_19), sl_19⟩)
    (c_law : PySem.W.codeIn K cd_19 "law" = true)
    (k_law : PySem.W.keepIn K (.ref f_law) = true)
    (pg_Tree : PySem.W.plainGet K C_Tree Str.empty = true)
    (hd_Tree : PySem.W.hasDictIn K C_Tree = true)
    (po_Tree : PySem.W.plainOver K C_Tree = true)
    (sa_Tree : PySem.W.findIn K (.ref C_Tree) "__setattr__" = some (some (.builtin "object.__setattr__")))
    (mk_Tree : PySem.W.makesIn K C_Tree = true)
    (kc_Tree : PySem.W.keepIn K (.ref C_Tree) = true)
    (nA_Tree_road_list : PySem.W.findIn K (.ref C_Tree) "road_list" = some none)
    (nA_Tree_size : PySem.W.findIn K (.ref C_Tree) "size" = some none)
    (xa_RoadError : PySem.W.findIn K (.ref C_RoadError) "__getattribute__" = some (some (.builtin "BaseException.__getattribute__")))
    (xn_RoadError : PySem.W.findIn K (.ref C_RoadError) "__getattr__" = some none)
    (xc_RoadError : PySem.W.findIn K (.ref C_RoadError) "__class__" = some (some (.builtin "object.__class__")))
    (xb_RoadError : PySem.W.subIn K (.ref C_RoadError) (.type "BaseException") = some true)
    (xo_RoadError : PySem.W.subIn K (.ref C_RoadError) (.type "object") = some true)
    (xl_RoadError : PySem.W.isClsIn K C_RoadError = true)
    (xt_RoadError : PySem.W.typeIn K (.ref C_RoadError) = some (.type "type"))
    (xv_RoadError : PySem.W.subIn K (.ref C_RoadError) (.type "ValueError") = some true)
    (xr_RoadError : PySem.W.excIn K C_RoadError [.type "ValueError", .type "Exception", .type "BaseException", .type "object"] "ValueError.__new__" = true)
    (xk_RoadError_BadTree : PySem.W.subIn K (.ref C_RoadError) (.ref C_BadTree) = some false)
    (xq_RoadError_BadTree : (Value.ref C_RoadError == Value.ref C_BadTree) = false)
    (xk_RoadError_NoVillage : PySem.W.subIn K (.ref C_RoadError) (.ref C_NoVillage) = some false)
    (xq_RoadError_NoVillage : (Value.ref C_RoadError == Value.ref C_NoVillage) = false)
    (xk_RoadError_NoRoad : PySem.W.subIn K (.ref C_RoadError) (.ref C_NoRoad) = some false)
    (xq_RoadError_NoRoad : (Value.ref C_RoadError == Value.ref C_NoRoad) = false)
    (xk_RoadError_BadNumber : PySem.W.subIn K (.ref C_RoadError) (.ref C_BadNumber) = some false)
    (xq_RoadError_BadNumber : (Value.ref C_RoadError == Value.ref C_BadNumber) = false)
    (xk_RoadError_BadRow : PySem.W.subIn K (.ref C_RoadError) (.ref C_BadRow) = some false)
    (xq_RoadError_BadRow : (Value.ref C_RoadError == Value.ref C_BadRow) = false)
    (xa_BadTree : PySem.W.findIn K (.ref C_BadTree) "__getattribute__" = some (some (.builtin "BaseException.__getattribute__")))
    (xn_BadTree : PySem.W.findIn K (.ref C_BadTree) "__getattr__" = some none)
    (xc_BadTree : PySem.W.findIn K (.ref C_BadTree) "__class__" = some (some (.builtin "object.__class__")))
    (xb_BadTree : PySem.W.subIn K (.ref C_BadTree) (.type "BaseException") = some true)
    (xo_BadTree : PySem.W.subIn K (.ref C_BadTree) (.type "object") = some true)
    (xl_BadTree : PySem.W.isClsIn K C_BadTree = true)
    (xt_BadTree : PySem.W.typeIn K (.ref C_BadTree) = some (.type "type"))
    (xv_BadTree : PySem.W.subIn K (.ref C_BadTree) (.type "ValueError") = some true)
    (xr_BadTree : PySem.W.excIn K C_BadTree [.type "ValueError", .type "Exception", .type "BaseException", .type "object"] "ValueError.__new__" = true)
    (xk_BadTree_RoadError : PySem.W.subIn K (.ref C_BadTree) (.ref C_RoadError) = some true)
    (xq_BadTree_RoadError : (Value.ref C_BadTree == Value.ref C_RoadError) = false)
    (xk_BadTree_NoVillage : PySem.W.subIn K (.ref C_BadTree) (.ref C_NoVillage) = some false)
    (xq_BadTree_NoVillage : (Value.ref C_BadTree == Value.ref C_NoVillage) = false)
    (xk_BadTree_NoRoad : PySem.W.subIn K (.ref C_BadTree) (.ref C_NoRoad) = some false)
    (xq_BadTree_NoRoad : (Value.ref C_BadTree == Value.ref C_NoRoad) = false)
    (xk_BadTree_BadNumber : PySem.W.subIn K (.ref C_BadTree) (.ref C_BadNumber) = some false)
    (xq_BadTree_BadNumber : (Value.ref C_BadTree == Value.ref C_BadNumber) = false)
    (xk_BadTree_BadRow : PySem.W.subIn K (.ref C_BadTree) (.ref C_BadRow) = some false)
    (xq_BadTree_BadRow : (Value.ref C_BadTree == Value.ref C_BadRow) = false)
    (xa_NoVillage : PySem.W.findIn K (.ref C_NoVillage) "__getattribute__" = some (some (.builtin "BaseException.__getattribute__")))
    (xn_NoVillage : PySem.W.findIn K (.ref C_NoVillage) "__getattr__" = some none)
    (xc_NoVillage : PySem.W.findIn K (.ref C_NoVillage) "__class__" = some (some (.builtin "object.__class__")))
    (xb_NoVillage : PySem.W.subIn K (.ref C_NoVillage) (.type "BaseException") = some true)
    (xo_NoVillage : PySem.W.subIn K (.ref C_NoVillage) (.type "object") = some true)
    (xl_NoVillage : PySem.W.isClsIn K C_NoVillage = true)
    (xt_NoVillage : PySem.W.typeIn K (.ref C_NoVillage) = some (.type "type"))
    (xv_NoVillage : PySem.W.subIn K (.ref C_NoVillage) (.type "ValueError") = some true)
    (xr_NoVillage : PySem.W.excIn K C_NoVillage [.type "ValueError", .type "Exception", .type "BaseException", .type "object"] "ValueError.__new__" = true)
    (xk_NoVillage_RoadError : PySem.W.subIn K (.ref C_NoVillage) (.ref C_RoadError) = some true)
    (xq_NoVillage_RoadError : (Value.ref C_NoVillage == Value.ref C_RoadError) = false)
    (xk_NoVillage_BadTree : PySem.W.subIn K (.ref C_NoVillage) (.ref C_BadTree) = some false)
    (xq_NoVillage_BadTree : (Value.ref C_NoVillage == Value.ref C_BadTree) = false)
    (xk_NoVillage_NoRoad : PySem.W.subIn K (.ref C_NoVillage) (.ref C_NoRoad) = some false)
    (xq_NoVillage_NoRoad : (Value.ref C_NoVillage == Value.ref C_NoRoad) = false)
    (xk_NoVillage_BadNumber : PySem.W.subIn K (.ref C_NoVillage) (.ref C_BadNumber) = some false)
    (xq_NoVillage_BadNumber : (Value.ref C_NoVillage == Value.ref C_BadNumber) = false)
    (xk_NoVillage_BadRow : PySem.W.subIn K (.ref C_NoVillage) (.ref C_BadRow) = some false)
    (xq_NoVillage_BadRow : (Value.ref C_NoVillage == Value.ref C_BadRow) = false)
    (xa_NoRoad : PySem.W.findIn K (.ref C_NoRoad) "__getattribute__" = some (some (.builtin "BaseException.__getattribute__")))
    (xn_NoRoad : PySem.W.findIn K (.ref C_NoRoad) "__getattr__" = some none)
    (xc_NoRoad : PySem.W.findIn K (.ref C_NoRoad) "__class__" = some (some (.builtin "object.__class__")))
    (xb_NoRoad : PySem.W.subIn K (.ref C_NoRoad) (.type "BaseException") = some true)
    (xo_NoRoad : PySem.W.subIn K (.ref C_NoRoad) (.type "object") = some true)
    (xl_NoRoad : PySem.W.isClsIn K C_NoRoad = true)
    (xt_NoRoad : PySem.W.typeIn K (.ref C_NoRoad) = some (.type "type"))
    (xv_NoRoad : PySem.W.subIn K (.ref C_NoRoad) (.type "ValueError") = some true)
    (xr_NoRoad : PySem.W.excIn K C_NoRoad [.type "ValueError", .type "Exception", .type "BaseException", .type "object"] "ValueError.__new__" = true)
    (xk_NoRoad_RoadError : PySem.W.subIn K (.ref C_NoRoad) (.ref C_RoadError) = some true)
    (xq_NoRoad_RoadError : (Value.ref C_NoRoad == Value.ref C_RoadError) = false)
    (xk_NoRoad_BadTree : PySem.W.subIn K (.ref C_NoRoad) (.ref C_BadTree) = some false)
    (xq_NoRoad_BadTree : (Value.ref C_NoRoad == Value.ref C_BadTree) = false)
    (xk_NoRoad_NoVillage : PySem.W.subIn K (.ref C_NoRoad) (.ref C_NoVillage) = some false)
    (xq_NoRoad_NoVillage : (Value.ref C_NoRoad == Value.ref C_NoVillage) = false)
    (xk_NoRoad_BadNumber : PySem.W.subIn K (.ref C_NoRoad) (.ref C_BadNumber) = some false)
    (xq_NoRoad_BadNumber : (Value.ref C_NoRoad == Value.ref C_BadNumber) = false)
    (xk_NoRoad_BadRow : PySem.W.subIn K (.ref C_NoRoad) (.ref C_BadRow) = some false)
    (xq_NoRoad_BadRow : (Value.ref C_NoRoad == Value.ref C_BadRow) = false)
    (xa_BadNumber : PySem.W.findIn K (.ref C_BadNumber) "__getattribute__" = some (some (.builtin "BaseException.__getattribute__")))
    (xn_BadNumber : PySem.W.findIn K (.ref C_BadNumber) "__getattr__" = some none)
    (xc_BadNumber : PySem.W.findIn K (.ref C_BadNumber) "__class__" = some (some (.builtin "object.__class__")))
    (xb_BadNumber : PySem.W.subIn K (.ref C_BadNumber) (.type "BaseException") = some true)
    (xo_BadNumber : PySem.W.subIn K (.ref C_BadNumber) (.type "object") = some true)
    (xl_BadNumber : PySem.W.isClsIn K C_BadNumber = true)
    (xt_BadNumber : PySem.W.typeIn K (.ref C_BadNumber) = some (.type "type"))
    (xv_BadNumber : PySem.W.subIn K (.ref C_BadNumber) (.type "ValueError") = some true)
    (xr_BadNumber : PySem.W.excIn K C_BadNumber [.type "ValueError", .type "Exception", .type "BaseException", .type "object"] "ValueError.__new__" = true)
    (xk_BadNumber_RoadError : PySem.W.subIn K (.ref C_BadNumber) (.ref C_RoadError) = some true)
    (xq_BadNumber_RoadError : (Value.ref C_BadNumber == Value.ref C_RoadError) = false)
    (xk_BadNumber_BadTree : PySem.W.subIn K (.ref C_BadNumber) (.ref C_BadTree) = some false)
    (xq_BadNumber_BadTree : (Value.ref C_BadNumber == Value.ref C_BadTree) = false)
    (xk_BadNumber_NoVillage : PySem.W.subIn K (.ref C_BadNumber) (.ref C_NoVillage) = some false)
    (xq_BadNumber_NoVillage : (Value.ref C_BadNumber == Value.ref C_NoVillage) = false)
    (xk_BadNumber_NoRoad : PySem.W.subIn K (.ref C_BadNumber) (.ref C_NoRoad) = some false)
    (xq_BadNumber_NoRoad : (Value.ref C_BadNumber == Value.ref C_NoRoad) = false)
    (xk_BadNumber_BadRow : PySem.W.subIn K (.ref C_BadNumber) (.ref C_BadRow) = some false)
    (xq_BadNumber_BadRow : (Value.ref C_BadNumber == Value.ref C_BadRow) = false)
    (xa_BadRow : PySem.W.findIn K (.ref C_BadRow) "__getattribute__" = some (some (.builtin "BaseException.__getattribute__")))
    (xn_BadRow : PySem.W.findIn K (.ref C_BadRow) "__getattr__" = some none)
    (xc_BadRow : PySem.W.findIn K (.ref C_BadRow) "__class__" = some (some (.builtin "object.__class__")))
    (xb_BadRow : PySem.W.subIn K (.ref C_BadRow) (.type "BaseException") = some true)
    (xo_BadRow : PySem.W.subIn K (.ref C_BadRow) (.type "object") = some true)
    (xl_BadRow : PySem.W.isClsIn K C_BadRow = true)
    (xt_BadRow : PySem.W.typeIn K (.ref C_BadRow) = some (.type "type"))
    (xv_BadRow : PySem.W.subIn K (.ref C_BadRow) (.type "ValueError") = some true)
    (xi_BadRow : excInI K C_BadRow [.type "ValueError", .type "Exception", .type "BaseException", .type "object"] "ValueError.__new__" = true)
    (xs_BadRow : PySem.W.findIn K (.ref C_BadRow) "__setattr__" = some (some (.builtin "object.__setattr__")))
    (xp_BadRow : ((PySem.W.clsIn K C_BadRow).any fun cd => xOver cd.mro) = true)
    (xd_BadRow : PySem.W.hasDictIn K C_BadRow = true)
    (xf_row_BadRow : PySem.W.findIn K (.ref C_BadRow) "row" = some none)
    (xk_BadRow_RoadError : PySem.W.subIn K (.ref C_BadRow) (.ref C_RoadError) = some true)
    (xq_BadRow_RoadError : (Value.ref C_BadRow == Value.ref C_RoadError) = false)
    (xk_BadRow_BadTree : PySem.W.subIn K (.ref C_BadRow) (.ref C_BadTree) = some false)
    (xq_BadRow_BadTree : (Value.ref C_BadRow == Value.ref C_BadTree) = false)
    (xk_BadRow_NoVillage : PySem.W.subIn K (.ref C_BadRow) (.ref C_NoVillage) = some false)
    (xq_BadRow_NoVillage : (Value.ref C_BadRow == Value.ref C_NoVillage) = false)
    (xk_BadRow_NoRoad : PySem.W.subIn K (.ref C_BadRow) (.ref C_NoRoad) = some false)
    (xq_BadRow_NoRoad : (Value.ref C_BadRow == Value.ref C_NoRoad) = false)
    (xk_BadRow_BadNumber : PySem.W.subIn K (.ref C_BadRow) (.ref C_BadNumber) = some false)
    (xq_BadRow_BadNumber : (Value.ref C_BadRow == Value.ref C_BadNumber) = false)
    (z_ValueError : PySem.W.nsIn K mainGlobals "ValueError" = some none)
    (z_all : PySem.W.nsIn K mainGlobals "all" = some none)
    (z_any : PySem.W.nsIn K mainGlobals "any" = some none)
    (z_bool : PySem.W.nsIn K mainGlobals "bool" = some none)
    (z_int : PySem.W.nsIn K mainGlobals "int" = some none)
    (z_isinstance : PySem.W.nsIn K mainGlobals "isinstance" = some none)
    (z_len : PySem.W.nsIn K mainGlobals "len" = some none)
    (z_list : PySem.W.nsIn K mainGlobals "list" = some none)
    (z_range : PySem.W.nsIn K mainGlobals "range" = some none)
    (z_str : PySem.W.nsIn K mainGlobals "str" = some none)
    (z_tuple : PySem.W.nsIn K mainGlobals "tuple" = some none)
    (g_MOST_VILLAGES : PySem.W.nsIn K mainGlobals "MOST_VILLAGES" = some (some (.int 12 t_MOST_VILLAGES)))
    (g_MOST_LENGTH : PySem.W.nsIn K mainGlobals "MOST_LENGTH" = some (some (.int 1000000 t_MOST_LENGTH)))
    (g_FIGURES : PySem.W.nsIn K mainGlobals "FIGURES" = some (some (.str "0123456789" t_FIGURES)))
    (g_MOST_FIGURES : PySem.W.nsIn K mainGlobals "MOST_FIGURES" = some (some (.int 7 t_MOST_FIGURES))) :
    ∃ fd : FuncData, (∀ (s : Shared) (v : Value), BindsTo s fd ⟨[v], []⟩ [("_law_script", v)]) ∧ ∀ base : Heap, K.In base → base.Ns mainGlobals mg → FnOk l.prog w K mg base CX0 10 fa fd ["_law_script"] (spLaw K) := by
  have e := hfa.symm.trans (PySem.W.mg_of X G a_law)
  cases e
  have F_BadRow_init := fun_mk (st := s_BadRow_init) l_BadRow_init c_BadRow_init k_BadRow_init
  have b_BadRow_init : Binds K _ ["self", "row"] [] := binds2 F_BadRow_init fun _ _ _ _ _ _ _ _ => rfl
  have F_is_number := fun_mk (st := s_is_number) l_is_number c_is_number k_is_number
  have b_is_number : Binds K _ ["value"] [] := binds1 F_is_number fun _ _ _ _ _ _ _ => rfl
  have F_is_whole := fun_mk (st := s_is_whole) l_is_whole c_is_whole k_is_whole
  have b_is_whole : Binds K _ ["value", "least", "most"] [] := binds3 F_is_whole fun _ _ _ _ _ _ _ _ _ => rfl
  have F_is_road := fun_mk (st := s_is_road) l_is_road c_is_road k_is_road
  have b_is_road : Binds K _ ["road", "villages"] [] := binds2 F_is_road fun _ _ _ _ _ _ _ _ => rfl
  have F_is_tree := fun_mk (st := s_is_tree) l_is_tree c_is_tree k_is_tree
  have b_is_tree : Binds K _ ["villages", "roads"] [] := binds2 F_is_tree fun _ _ _ _ _ _ _ _ => rfl
  have F_steps := fun_mk (st := s_steps) l_steps c_steps k_steps
  have b_steps : Binds K _ ["roads", "village"] [] := binds2 F_steps fun _ _ _ _ _ _ _ _ => rfl
  have F_reached := fun_mk (st := s_reached) l_reached c_reached k_reached
  have b_reached : Binds K _ ["roads", "start"] [] := binds2 F_reached fun _ _ _ _ _ _ _ _ => rfl
  have F_Tree_init := fun_mk (st := s_Tree_init) l_Tree_init c_Tree_init k_Tree_init
  have b_Tree_init : Binds K _ ["self", "villages", "roads"] [] := binds3 F_Tree_init fun _ _ _ _ _ _ _ _ _ => rfl
  have F_Tree_roads := fun_mk (st := s_Tree_roads) l_Tree_roads c_Tree_roads k_Tree_roads
  have b_Tree_roads : Binds K _ ["self"] [] := binds1 F_Tree_roads fun _ _ _ _ _ _ _ => rfl
  have F_number_of := fun_mk (st := s_number_of) l_number_of c_number_of k_number_of
  have b_number_of : Binds K _ ["text"] [] := binds1 F_number_of fun _ _ _ _ _ _ _ => rfl
  have F_villages_of := fun_mk (st := s_villages_of) l_villages_of c_villages_of k_villages_of
  have b_villages_of : Binds K _ ["row"] [] := binds1 F_villages_of fun _ _ _ _ _ _ _ => rfl
  have F_road_of := fun_mk (st := s_road_of) l_road_of c_road_of k_road_of
  have b_road_of : Binds K _ ["row"] [] := binds1 F_road_of fun _ _ _ _ _ _ _ => rfl
  have F_read := fun_mk (st := s_read) l_read c_read k_read
  have b_read : Binds K _ ["text"] [] := binds1 F_read fun _ _ _ _ _ _ _ => rfl
  have F__law_cell_at := fun_mk (st := s__law_cell_at) l__law_cell_at c__law_cell_at k__law_cell_at
  have b__law_cell_at : Binds K _ ["_law_script", "_law_k"] [] := binds2 F__law_cell_at fun _ _ _ _ _ _ _ _ => rfl
  have F__law_draw := fun_mk (st := s__law_draw) l__law_draw c__law_draw k__law_draw
  have b__law_draw : Binds K _ ["_law_cell", "_law_k", "_law_many"] [] := binds3 F__law_draw fun _ _ _ _ _ _ _ _ _ => rfl
  have F__law_refused := fun_mk (st := s__law_refused) l__law_refused c__law_refused k__law_refused
  have b__law_refused : Binds K _ ["_law_text"] [] := binds1 F__law_refused fun _ _ _ _ _ _ _ => rfl
  have F__law_bad_road := fun_mk (st := s__law_bad_road) l__law_bad_road c__law_bad_road k__law_bad_road
  have b__law_bad_road : Binds K _ ["_law_which"] [] := binds1 F__law_bad_road fun _ _ _ _ _ _ _ => rfl
  have F__law_bad_head := fun_mk (st := s__law_bad_head) l__law_bad_head c__law_bad_head k__law_bad_head
  have b__law_bad_head : Binds K _ ["_law_which"] [] := binds1 F__law_bad_head fun _ _ _ _ _ _ _ => rfl
  have F__law_whole := fun_mk (st := s__law_whole) l__law_whole c__law_whole k__law_whole
  have b__law_whole : Binds K _ ["_law_more"] [] := binds1 F__law_whole fun _ _ _ _ _ _ _ => rfl
  have F_law := fun_mk (st := s_law) l_law c_law k_law
  have b_law : Binds K _ ["_law_script"] [] := binds1 F_law fun _ _ _ _ _ _ _ => rfl
  have TT : Txt K mg { f_BadRow_init := f_BadRow_init, d_BadRow_init := _, f_is_number := f_is_number, d_is_number := _, f_is_whole := f_is_whole, d_is_whole := _, f_is_road := f_is_road, d_is_road := _, f_is_tree := f_is_tree, d_is_tree := _, f_steps := f_steps, d_steps := _, f_reached := f_reached, d_reached := _, f_Tree_init := f_Tree_init, d_Tree_init := _, f_Tree_roads := f_Tree_roads, d_Tree_roads := _, f_number_of := f_number_of, d_number_of := _, f_villages_of := f_villages_of, d_villages_of := _, f_road_of := f_road_of, d_road_of := _, f_read := f_read, d_read := _, f__law_cell_at := f__law_cell_at, d__law_cell_at := _, f__law_draw := f__law_draw, d__law_draw := _, f__law_refused := f__law_refused, d__law_refused := _, f__law_bad_road := f__law_bad_road, d__law_bad_road := _, f__law_bad_head := f__law_bad_head, d__law_bad_head := _, f__law_whole := f__law_whole, d__law_whole := _, f_law := fa, d_law := _, C_RoadError := C_RoadError, C_BadTree := C_BadTree, C_NoVillage := C_NoVillage, C_NoRoad := C_NoRoad, C_BadNumber := C_BadNumber, C_BadRow := C_BadRow, C_Tree := C_Tree, k_MOST_VILLAGES := t_MOST_VILLAGES, k_MOST_LENGTH := t_MOST_LENGTH, k_FIGURES := t_FIGURES, k_MOST_FIGURES := t_MOST_FIGURES } := {
    z_ValueError := PySem.W.mg_none_of X G z_ValueError,
    z_all := PySem.W.mg_none_of X G z_all,
    z_any := PySem.W.mg_none_of X G z_any,
    z_bool := PySem.W.mg_none_of X G z_bool,
    z_int := PySem.W.mg_none_of X G z_int,
    z_isinstance := PySem.W.mg_none_of X G z_isinstance,
    z_len := PySem.W.mg_none_of X G z_len,
    z_list := PySem.W.mg_none_of X G z_list,
    z_range := PySem.W.mg_none_of X G z_range,
    z_str := PySem.W.mg_none_of X G z_str,
    z_tuple := PySem.W.mg_none_of X G z_tuple,
    g_MOST_VILLAGES := PySem.W.mg_of X G g_MOST_VILLAGES,
    g_MOST_LENGTH := PySem.W.mg_of X G g_MOST_LENGTH,
    g_FIGURES := PySem.W.mg_of X G g_FIGURES,
    g_MOST_FIGURES := PySem.W.mg_of X G g_MOST_FIGURES,
    F_BadRow_init := F_BadRow_init,
    b_BadRow_init := b_BadRow_init,
    I_BadRow := a_BadRow_init,
    F_is_number := F_is_number,
    b_is_number := b_is_number,
    m_is_number := PySem.W.mg_of X G a_is_number,
    F_is_whole := F_is_whole,
    b_is_whole := b_is_whole,
    m_is_whole := PySem.W.mg_of X G a_is_whole,
    F_is_road := F_is_road,
    b_is_road := b_is_road,
    m_is_road := PySem.W.mg_of X G a_is_road,
    F_is_tree := F_is_tree,
    b_is_tree := b_is_tree,
    m_is_tree := PySem.W.mg_of X G a_is_tree,
    F_steps := F_steps,
    b_steps := b_steps,
    m_steps := PySem.W.mg_of X G a_steps,
    F_reached := F_reached,
    b_reached := b_reached,
    m_reached := PySem.W.mg_of X G a_reached,
    F_Tree_init := F_Tree_init,
    b_Tree_init := b_Tree_init,
    M_Tree := ⟨mk_Tree, a_Tree_init, i_Tree_init, kc_Tree⟩,
    F_Tree_roads := F_Tree_roads,
    b_Tree_roads := b_Tree_roads,
    M_Tree_roads := ⟨a_Tree_roads, i_Tree_roads, k_Tree_roads⟩,
    F_number_of := F_number_of,
    b_number_of := b_number_of,
    m_number_of := PySem.W.mg_of X G a_number_of,
    F_villages_of := F_villages_of,
    b_villages_of := b_villages_of,
    m_villages_of := PySem.W.mg_of X G a_villages_of,
    F_road_of := F_road_of,
    b_road_of := b_road_of,
    m_road_of := PySem.W.mg_of X G a_road_of,
    F_read := F_read,
    b_read := b_read,
    m_read := PySem.W.mg_of X G a_read,
    F__law_cell_at := F__law_cell_at,
    b__law_cell_at := b__law_cell_at,
    m__law_cell_at := PySem.W.mg_of X G a__law_cell_at,
    F__law_draw := F__law_draw,
    b__law_draw := b__law_draw,
    m__law_draw := PySem.W.mg_of X G a__law_draw,
    F__law_refused := F__law_refused,
    b__law_refused := b__law_refused,
    m__law_refused := PySem.W.mg_of X G a__law_refused,
    F__law_bad_road := F__law_bad_road,
    b__law_bad_road := b__law_bad_road,
    m__law_bad_road := PySem.W.mg_of X G a__law_bad_road,
    F__law_bad_head := F__law_bad_head,
    b__law_bad_head := b__law_bad_head,
    m__law_bad_head := PySem.W.mg_of X G a__law_bad_head,
    F__law_whole := F__law_whole,
    b__law_whole := b__law_whole,
    m__law_whole := PySem.W.mg_of X G a__law_whole,
    F_law := F_law,
    b_law := b_law,
    m_law := PySem.W.mg_of X G a_law,
    cl_Tree := ⟨pg_Tree, hd_Tree, po_Tree, sa_Tree⟩,
    m_Tree := PySem.W.mg_of X G aC_Tree,
    n_Tree_road_list := nA_Tree_road_list,
    n_Tree_size := nA_Tree_size,
    m_RoadError := PySem.W.mg_of X G aC_RoadError,
    X_RoadError := ⟨xa_RoadError, xn_RoadError, xc_RoadError, xb_RoadError, xo_RoadError, xl_RoadError⟩,
    v_RoadError := kitOne_val xv_RoadError,
    R_RoadError := xr_RoadError,
    k_RoadError_RoadError := kitOne_same _ _,
    k_RoadError_BadTree := kitCls_of xl_BadTree xt_BadTree xk_RoadError_BadTree,
    o_RoadError_BadTree := kitOne_ne xq_RoadError_BadTree (kitCls_of xl_BadTree xt_BadTree xk_RoadError_BadTree),
    k_RoadError_NoVillage := kitCls_of xl_NoVillage xt_NoVillage xk_RoadError_NoVillage,
    o_RoadError_NoVillage := kitOne_ne xq_RoadError_NoVillage (kitCls_of xl_NoVillage xt_NoVillage xk_RoadError_NoVillage),
    k_RoadError_NoRoad := kitCls_of xl_NoRoad xt_NoRoad xk_RoadError_NoRoad,
    o_RoadError_NoRoad := kitOne_ne xq_RoadError_NoRoad (kitCls_of xl_NoRoad xt_NoRoad xk_RoadError_NoRoad),
    k_RoadError_BadNumber := kitCls_of xl_BadNumber xt_BadNumber xk_RoadError_BadNumber,
    o_RoadError_BadNumber := kitOne_ne xq_RoadError_BadNumber (kitCls_of xl_BadNumber xt_BadNumber xk_RoadError_BadNumber),
    k_RoadError_BadRow := kitCls_of xl_BadRow xt_BadRow xk_RoadError_BadRow,
    o_RoadError_BadRow := kitOne_ne xq_RoadError_BadRow (kitCls_of xl_BadRow xt_BadRow xk_RoadError_BadRow),
    m_BadTree := PySem.W.mg_of X G aC_BadTree,
    X_BadTree := ⟨xa_BadTree, xn_BadTree, xc_BadTree, xb_BadTree, xo_BadTree, xl_BadTree⟩,
    v_BadTree := kitOne_val xv_BadTree,
    R_BadTree := xr_BadTree,
    k_BadTree_RoadError := kitCls_of xl_RoadError xt_RoadError xk_BadTree_RoadError,
    o_BadTree_RoadError := kitOne_ne xq_BadTree_RoadError (kitCls_of xl_RoadError xt_RoadError xk_BadTree_RoadError),
    k_BadTree_BadTree := kitOne_same _ _,
    k_BadTree_NoVillage := kitCls_of xl_NoVillage xt_NoVillage xk_BadTree_NoVillage,
    o_BadTree_NoVillage := kitOne_ne xq_BadTree_NoVillage (kitCls_of xl_NoVillage xt_NoVillage xk_BadTree_NoVillage),
    k_BadTree_NoRoad := kitCls_of xl_NoRoad xt_NoRoad xk_BadTree_NoRoad,
    o_BadTree_NoRoad := kitOne_ne xq_BadTree_NoRoad (kitCls_of xl_NoRoad xt_NoRoad xk_BadTree_NoRoad),
    k_BadTree_BadNumber := kitCls_of xl_BadNumber xt_BadNumber xk_BadTree_BadNumber,
    o_BadTree_BadNumber := kitOne_ne xq_BadTree_BadNumber (kitCls_of xl_BadNumber xt_BadNumber xk_BadTree_BadNumber),
    k_BadTree_BadRow := kitCls_of xl_BadRow xt_BadRow xk_BadTree_BadRow,
    o_BadTree_BadRow := kitOne_ne xq_BadTree_BadRow (kitCls_of xl_BadRow xt_BadRow xk_BadTree_BadRow),
    m_NoVillage := PySem.W.mg_of X G aC_NoVillage,
    X_NoVillage := ⟨xa_NoVillage, xn_NoVillage, xc_NoVillage, xb_NoVillage, xo_NoVillage, xl_NoVillage⟩,
    v_NoVillage := kitOne_val xv_NoVillage,
    R_NoVillage := xr_NoVillage,
    k_NoVillage_RoadError := kitCls_of xl_RoadError xt_RoadError xk_NoVillage_RoadError,
    o_NoVillage_RoadError := kitOne_ne xq_NoVillage_RoadError (kitCls_of xl_RoadError xt_RoadError xk_NoVillage_RoadError),
    k_NoVillage_BadTree := kitCls_of xl_BadTree xt_BadTree xk_NoVillage_BadTree,
    o_NoVillage_BadTree := kitOne_ne xq_NoVillage_BadTree (kitCls_of xl_BadTree xt_BadTree xk_NoVillage_BadTree),
    k_NoVillage_NoVillage := kitOne_same _ _,
    k_NoVillage_NoRoad := kitCls_of xl_NoRoad xt_NoRoad xk_NoVillage_NoRoad,
    o_NoVillage_NoRoad := kitOne_ne xq_NoVillage_NoRoad (kitCls_of xl_NoRoad xt_NoRoad xk_NoVillage_NoRoad),
    k_NoVillage_BadNumber := kitCls_of xl_BadNumber xt_BadNumber xk_NoVillage_BadNumber,
    o_NoVillage_BadNumber := kitOne_ne xq_NoVillage_BadNumber (kitCls_of xl_BadNumber xt_BadNumber xk_NoVillage_BadNumber),
    k_NoVillage_BadRow := kitCls_of xl_BadRow xt_BadRow xk_NoVillage_BadRow,
    o_NoVillage_BadRow := kitOne_ne xq_NoVillage_BadRow (kitCls_of xl_BadRow xt_BadRow xk_NoVillage_BadRow),
    m_NoRoad := PySem.W.mg_of X G aC_NoRoad,
    X_NoRoad := ⟨xa_NoRoad, xn_NoRoad, xc_NoRoad, xb_NoRoad, xo_NoRoad, xl_NoRoad⟩,
    v_NoRoad := kitOne_val xv_NoRoad,
    R_NoRoad := xr_NoRoad,
    k_NoRoad_RoadError := kitCls_of xl_RoadError xt_RoadError xk_NoRoad_RoadError,
    o_NoRoad_RoadError := kitOne_ne xq_NoRoad_RoadError (kitCls_of xl_RoadError xt_RoadError xk_NoRoad_RoadError),
    k_NoRoad_BadTree := kitCls_of xl_BadTree xt_BadTree xk_NoRoad_BadTree,
    o_NoRoad_BadTree := kitOne_ne xq_NoRoad_BadTree (kitCls_of xl_BadTree xt_BadTree xk_NoRoad_BadTree),
    k_NoRoad_NoVillage := kitCls_of xl_NoVillage xt_NoVillage xk_NoRoad_NoVillage,
    o_NoRoad_NoVillage := kitOne_ne xq_NoRoad_NoVillage (kitCls_of xl_NoVillage xt_NoVillage xk_NoRoad_NoVillage),
    k_NoRoad_NoRoad := kitOne_same _ _,
    k_NoRoad_BadNumber := kitCls_of xl_BadNumber xt_BadNumber xk_NoRoad_BadNumber,
    o_NoRoad_BadNumber := kitOne_ne xq_NoRoad_BadNumber (kitCls_of xl_BadNumber xt_BadNumber xk_NoRoad_BadNumber),
    k_NoRoad_BadRow := kitCls_of xl_BadRow xt_BadRow xk_NoRoad_BadRow,
    o_NoRoad_BadRow := kitOne_ne xq_NoRoad_BadRow (kitCls_of xl_BadRow xt_BadRow xk_NoRoad_BadRow),
    m_BadNumber := PySem.W.mg_of X G aC_BadNumber,
    X_BadNumber := ⟨xa_BadNumber, xn_BadNumber, xc_BadNumber, xb_BadNumber, xo_BadNumber, xl_BadNumber⟩,
    v_BadNumber := kitOne_val xv_BadNumber,
    R_BadNumber := xr_BadNumber,
    k_BadNumber_RoadError := kitCls_of xl_RoadError xt_RoadError xk_BadNumber_RoadError,
    o_BadNumber_RoadError := kitOne_ne xq_BadNumber_RoadError (kitCls_of xl_RoadError xt_RoadError xk_BadNumber_RoadError),
    k_BadNumber_BadTree := kitCls_of xl_BadTree xt_BadTree xk_BadNumber_BadTree,
    o_BadNumber_BadTree := kitOne_ne xq_BadNumber_BadTree (kitCls_of xl_BadTree xt_BadTree xk_BadNumber_BadTree),
    k_BadNumber_NoVillage := kitCls_of xl_NoVillage xt_NoVillage xk_BadNumber_NoVillage,
    o_BadNumber_NoVillage := kitOne_ne xq_BadNumber_NoVillage (kitCls_of xl_NoVillage xt_NoVillage xk_BadNumber_NoVillage),
    k_BadNumber_NoRoad := kitCls_of xl_NoRoad xt_NoRoad xk_BadNumber_NoRoad,
    o_BadNumber_NoRoad := kitOne_ne xq_BadNumber_NoRoad (kitCls_of xl_NoRoad xt_NoRoad xk_BadNumber_NoRoad),
    k_BadNumber_BadNumber := kitOne_same _ _,
    k_BadNumber_BadRow := kitCls_of xl_BadRow xt_BadRow xk_BadNumber_BadRow,
    o_BadNumber_BadRow := kitOne_ne xq_BadNumber_BadRow (kitCls_of xl_BadRow xt_BadRow xk_BadNumber_BadRow),
    m_BadRow := PySem.W.mg_of X G aC_BadRow,
    X_BadRow := ⟨xa_BadRow, xn_BadRow, xc_BadRow, xb_BadRow, xo_BadRow, xl_BadRow⟩,
    v_BadRow := kitOne_val xv_BadRow,
    XM_BadRow := ⟨xi_BadRow, a_BadRow_init, i_BadRow_init, by rw [l_BadRow_init]; rfl⟩,
    XS_BadRow_row := ⟨xs_BadRow, xf_row_BadRow, xp_BadRow, xd_BadRow⟩,
    XG_BadRow_row := ⟨⟨xa_BadRow, xn_BadRow, xc_BadRow, xb_BadRow, xo_BadRow, xl_BadRow⟩, xf_row_BadRow, xd_BadRow⟩,
    k_BadRow_RoadError := kitCls_of xl_RoadError xt_RoadError xk_BadRow_RoadError,
    o_BadRow_RoadError := kitOne_ne xq_BadRow_RoadError (kitCls_of xl_RoadError xt_RoadError xk_BadRow_RoadError),
    k_BadRow_BadTree := kitCls_of xl_BadTree xt_BadTree xk_BadRow_BadTree,
    o_BadRow_BadTree := kitOne_ne xq_BadRow_BadTree (kitCls_of xl_BadTree xt_BadTree xk_BadRow_BadTree),
    k_BadRow_NoVillage := kitCls_of xl_NoVillage xt_NoVillage xk_BadRow_NoVillage,
    o_BadRow_NoVillage := kitOne_ne xq_BadRow_NoVillage (kitCls_of xl_NoVillage xt_NoVillage xk_BadRow_NoVillage),
    k_BadRow_NoRoad := kitCls_of xl_NoRoad xt_NoRoad xk_BadRow_NoRoad,
    o_BadRow_NoRoad := kitOne_ne xq_BadRow_NoRoad (kitCls_of xl_NoRoad xt_NoRoad xk_BadRow_NoRoad),
    k_BadRow_BadNumber := kitCls_of xl_BadNumber xt_BadNumber xk_BadRow_BadNumber,
    o_BadRow_BadNumber := kitOne_ne xq_BadRow_BadNumber (kitCls_of xl_BadNumber xt_BadNumber xk_BadRow_BadNumber),
    k_BadRow_BadRow := kitOne_same _ _ }
  exact ⟨_, fun s v => .of_eq rfl, fun base _ _ => ok_law TT⟩
theorem walk {l : PySem.W.OpenLaw} {q : Program} {loose : List Str} {XP : (Str → Option Value) → Heap → Prop} {YP : World → Heap → Prop} {d : DefRec} {K : Params → PySem.W.Frag} (hn : l.most = some 63) (hdf : d.params.defaults = [])
    (hY : ∀ (w : World) (h : Heap), YP w h → (K w.params).In h)
    (F : ∀ (w : World) (mg : Str → Option Value) (fa : Addr) (h : Heap), (K w.params).In h → h.Ns mainGlobals mg → mg d.name = some (.ref fa) →
      ∃ fd : FuncData, (∀ (s : Shared) (u : Value), BindsTo s fd ⟨[u], []⟩ [("_law_script", u)]) ∧ ∀ base : Heap, (K w.params).In base → base.Ns mainGlobals mg → FnOk l.prog w (K w.params) mg base CX0 10 fa fd ["_law_script"] (spLaw (K w.params))) :
    PySem.W.WalkO q loose XP YP l.row.toRowW d [] (fun f vs => PySem.call f vs) :=
  L2.walk_of (n := 63) (k := 10) (x := "_law_script") (CX := fun _ => CX0) (sp := fun w => spLaw (K w.params)) hn (by decide) hdf ⟨rfl, by decide, by decide⟩ hY F (fun _ _ a ns hl _ hS => ⟨a, ns, rfl, hS, hl, fun _ => rfl⟩) fun _ _ _ _ _ z => z
end WR
open PySem PySem.W PyProof.Rows
set_option maxRecDepth 100000 in
set_option maxHeartbeats 0 in
theorem PySem.Challenge.cw_wellroads_k09_texts_misread_holds : PySem.Challenge.rw_wellroads_k09_texts_misread.Holds := by
  w_on; o_law; k_head; (case hw => w_witness2)
  k_fill
  refine WR.walk (l := PySem.Challenge.rw_wellroads_k09_texts_misread) rfl rfl (fun w h Y => PySem.W.kIn_of Y) ?F
  case F =>
    intro w mg fa h KX G hmg
    refine' WR.all_mk KX G hmg ?aC_Tree ?aC_RoadError ?aC_BadTree ?aC_NoVillage ?aC_NoRoad ?aC_BadNumber ?aC_BadRow ?a_BadRow_init ?i_BadRow_init ?l_BadRow_init ?c_BadRow_init ?k_BadRow_init ?a_is_number ?l_is_number ?c_is_number ?k_is_number ?a_is_whole ?l_is_whole ?c_is_whole ?k_is_whole ?a_is_road ?l_is_road ?c_is_road ?k_is_road ?a_is_tree ?l_is_tree ?c_is_tree ?k_is_tree ?a_steps ?l_steps ?c_steps ?k_steps ?a_reached ?l_reached ?c_reached ?k_reached ?a_Tree_init ?i_Tree_init ?l_Tree_init ?c_Tree_init ?k_Tree_init ?a_Tree_roads ?i_Tree_roads ?l_Tree_roads ?c_Tree_roads ?k_Tree_roads ?a_number_of ?l_number_of ?c_number_of ?k_number_of ?a_villages_of ?l_villages_of ?c_villages_of ?k_villages_of ?a_road_of ?l_road_of ?c_road_of ?k_road_of ?a_read ?l_read ?c_read ?k_read ?a__law_cell_at ?l__law_cell_at ?c__law_cell_at ?k__law_cell_at ?a__law_draw ?l__law_draw ?c__law_draw ?k__law_draw ?a__law_refused ?l__law_refused ?c__law_refused ?k__law_refused ?a__law_bad_road ?l__law_bad_road ?c__law_bad_road ?k__law_bad_road ?a__law_bad_head ?l__law_bad_head ?c__law_bad_head ?k__law_bad_head ?a__law_whole ?l__law_whole ?c__law_whole ?k__law_whole ?a_law ?l_law ?c_law ?k_law ?pg_Tree ?hd_Tree ?po_Tree ?sa_Tree ?mk_Tree ?kc_Tree ?nA_Tree_road_list ?nA_Tree_size ?xa_RoadError ?xn_RoadError ?xc_RoadError ?xb_RoadError ?xo_RoadError ?xl_RoadError ?xt_RoadError ?xv_RoadError ?xr_RoadError ?xk_RoadError_BadTree ?xq_RoadError_BadTree ?xk_RoadError_NoVillage ?xq_RoadError_NoVillage ?xk_RoadError_NoRoad ?xq_RoadError_NoRoad ?xk_RoadError_BadNumber ?xq_RoadError_BadNumber ?xk_RoadError_BadRow ?xq_RoadError_BadRow ?xa_BadTree ?xn_BadTree ?xc_BadTree ?xb_BadTree ?xo_BadTree ?xl_BadTree ?xt_BadTree ?xv_BadTree ?xr_BadTree ?xk_BadTree_RoadError ?xq_BadTree_RoadError ?xk_BadTree_NoVillage ?xq_BadTree_NoVillage ?xk_BadTree_NoRoad ?xq_BadTree_NoRoad ?xk_BadTree_BadNumber ?xq_BadTree_BadNumber ?xk_BadTree_BadRow ?xq_BadTree_BadRow ?xa_NoVillage ?xn_NoVillage ?xc_NoVillage ?xb_NoVillage ?xo_NoVillage ?xl_NoVillage ?xt_NoVillage ?xv_NoVillage ?xr_NoVillage ?xk_NoVillage_RoadError ?xq_NoVillage_RoadError ?xk_NoVillage_BadTree ?xq_NoVillage_BadTree ?xk_NoVillage_NoRoad ?xq_NoVillage_NoRoad ?xk_NoVillage_BadNumber ?xq_NoVillage_BadNumber ?xk_NoVillage_BadRow ?xq_NoVillage_BadRow ?xa_NoRoad ?xn_NoRoad ?xc_NoRoad ?xb_NoRoad ?xo_NoRoad ?xl_NoRoad ?xt_NoRoad ?xv_NoRoad ?xr_NoRoad ?xk_NoRoad_RoadError ?xq_NoRoad_RoadError ?xk_NoRoad_BadTree ?xq_NoRoad_BadTree ?xk_NoRoad_NoVillage ?xq_NoRoad_NoVillage ?xk_NoRoad_BadNumber ?xq_NoRoad_BadNumber ?xk_NoRoad_BadRow ?xq_NoRoad_BadRow ?xa_BadNumber ?xn_BadNumber ?xc_BadNumber ?xb_BadNumber ?xo_BadNumber ?xl_BadNumber ?xt_BadNumber ?xv_BadNumber ?xr_BadNumber ?xk_BadNumber_RoadError ?xq_BadNumber_RoadError ?xk_BadNumber_BadTree ?xq_BadNumber_BadTree ?xk_BadNumber_NoVillage ?xq_BadNumber_NoVillage ?xk_BadNumber_NoRoad ?xq_BadNumber_NoRoad ?xk_BadNumber_BadRow ?xq_BadNumber_BadRow ?xa_BadRow ?xn_BadRow ?xc_BadRow ?xb_BadRow ?xo_BadRow ?xl_BadRow ?xt_BadRow ?xv_BadRow ?xi_BadRow ?xs_BadRow ?xp_BadRow ?xd_BadRow ?xf_row_BadRow ?xk_BadRow_RoadError ?xq_BadRow_RoadError ?xk_BadRow_BadTree ?xq_BadRow_BadTree ?xk_BadRow_NoVillage ?xq_BadRow_NoVillage ?xk_BadRow_NoRoad ?xq_BadRow_NoRoad ?xk_BadRow_BadNumber ?xq_BadRow_BadNumber ?z_ValueError ?z_all ?z_any ?z_bool ?z_int ?z_isinstance ?z_len ?z_list ?z_range ?z_str ?z_tuple ?g_MOST_VILLAGES ?g_MOST_LENGTH ?g_FIGURES ?g_MOST_FIGURES
    (case aC_Tree => k_is)
    (case aC_RoadError => k_is)
    (case aC_BadTree => k_is)
    (case aC_NoVillage => k_is)
    (case aC_NoRoad => k_is)
    (case aC_BadNumber => k_is)
    (case aC_BadRow => k_is)
    (case a_BadRow_init => k_is)
    (case i_BadRow_init => k_is)
    (case l_BadRow_init => k_is)
    (case c_BadRow_init => k_is)
    (case k_BadRow_init => k_is)
    (case a_is_number => k_is)
    (case l_is_number => k_is)
    (case c_is_number => k_is)
    (case k_is_number => k_is)
    (case a_is_whole => k_is)
    (case l_is_whole => k_is)
    (case c_is_whole => k_is)
    (case k_is_whole => k_is)
    (case a_is_road => k_is)
    (case l_is_road => k_is)
    (case c_is_road => k_is)
    (case k_is_road => k_is)
    (case a_is_tree => k_is)
    (case l_is_tree => k_is)
    (case c_is_tree => k_is)
    (case k_is_tree => k_is)
    (case a_steps => k_is)
    (case l_steps => k_is)
    (case c_steps => k_is)
    (case k_steps => k_is)
    (case a_reached => k_is)
    (case l_reached => k_is)
    (case c_reached => k_is)
    (case k_reached => k_is)
    (case a_Tree_init => k_is)
    (case i_Tree_init => k_is)
    (case l_Tree_init => k_is)
    (case c_Tree_init => k_is)
    (case k_Tree_init => k_is)
    (case a_Tree_roads => k_is)
    (case i_Tree_roads => k_is)
    (case l_Tree_roads => k_is)
    (case c_Tree_roads => k_is)
    (case k_Tree_roads => k_is)
    (case a_number_of => k_is)
    (case l_number_of => k_is)
    (case c_number_of => k_is)
    (case k_number_of => k_is)
    (case a_villages_of => k_is)
    (case l_villages_of => k_is)
    (case c_villages_of => k_is)
    (case k_villages_of => k_is)
    (case a_road_of => k_is)
    (case l_road_of => k_is)
    (case c_road_of => k_is)
    (case k_road_of => k_is)
    (case a_read => k_is)
    (case l_read => k_is)
    (case c_read => k_is)
    (case k_read => k_is)
    (case a__law_cell_at => k_is)
    (case l__law_cell_at => k_is)
    (case c__law_cell_at => k_is)
    (case k__law_cell_at => k_is)
    (case a__law_draw => k_is)
    (case l__law_draw => k_is)
    (case c__law_draw => k_is)
    (case k__law_draw => k_is)
    (case a__law_refused => k_is)
    (case l__law_refused => k_is)
    (case c__law_refused => k_is)
    (case k__law_refused => k_is)
    (case a__law_bad_road => k_is)
    (case l__law_bad_road => k_is)
    (case c__law_bad_road => k_is)
    (case k__law_bad_road => k_is)
    (case a__law_bad_head => k_is)
    (case l__law_bad_head => k_is)
    (case c__law_bad_head => k_is)
    (case k__law_bad_head => k_is)
    (case a__law_whole => k_is)
    (case l__law_whole => k_is)
    (case c__law_whole => k_is)
    (case k__law_whole => k_is)
    (case a_law => k_is)
    (case l_law => k_is)
    (case c_law => k_is)
    (case k_law => k_is)
    (case pg_Tree => k_is)
    (case hd_Tree => k_is)
    (case po_Tree => k_is)
    (case sa_Tree => k_is)
    (case mk_Tree => k_is)
    (case kc_Tree => k_is)
    (case nA_Tree_road_list => k_is)
    (case nA_Tree_size => k_is)
    (case xa_RoadError => k_is)
    (case xn_RoadError => k_is)
    (case xc_RoadError => k_is)
    (case xb_RoadError => k_is)
    (case xo_RoadError => k_is)
    (case xl_RoadError => k_is)
    (case xt_RoadError => k_is)
    (case xv_RoadError => k_is)
    (case xr_RoadError => k_exc)
    (case xk_RoadError_BadTree => k_is)
    (case xq_RoadError_BadTree => rfl)
    (case xk_RoadError_NoVillage => k_is)
    (case xq_RoadError_NoVillage => rfl)
    (case xk_RoadError_NoRoad => k_is)
    (case xq_RoadError_NoRoad => rfl)
    (case xk_RoadError_BadNumber => k_is)
    (case xq_RoadError_BadNumber => rfl)
    (case xk_RoadError_BadRow => k_is)
    (case xq_RoadError_BadRow => rfl)
    (case xa_BadTree => k_is)
    (case xn_BadTree => k_is)
    (case xc_BadTree => k_is)
    (case xb_BadTree => k_is)
    (case xo_BadTree => k_is)
    (case xl_BadTree => k_is)
    (case xt_BadTree => k_is)
    (case xv_BadTree => k_is)
    (case xr_BadTree => k_exc)
    (case xk_BadTree_RoadError => k_is)
    (case xq_BadTree_RoadError => rfl)
    (case xk_BadTree_NoVillage => k_is)
    (case xq_BadTree_NoVillage => rfl)
    (case xk_BadTree_NoRoad => k_is)
    (case xq_BadTree_NoRoad => rfl)
    (case xk_BadTree_BadNumber => k_is)
    (case xq_BadTree_BadNumber => rfl)
    (case xk_BadTree_BadRow => k_is)
    (case xq_BadTree_BadRow => rfl)
    (case xa_NoVillage => k_is)
    (case xn_NoVillage => k_is)
    (case xc_NoVillage => k_is)
    (case xb_NoVillage => k_is)
    (case xo_NoVillage => k_is)
    (case xl_NoVillage => k_is)
    (case xt_NoVillage => k_is)
    (case xv_NoVillage => k_is)
    (case xr_NoVillage => k_exc)
    (case xk_NoVillage_RoadError => k_is)
    (case xq_NoVillage_RoadError => rfl)
    (case xk_NoVillage_BadTree => k_is)
    (case xq_NoVillage_BadTree => rfl)
    (case xk_NoVillage_NoRoad => k_is)
    (case xq_NoVillage_NoRoad => rfl)
    (case xk_NoVillage_BadNumber => k_is)
    (case xq_NoVillage_BadNumber => rfl)
    (case xk_NoVillage_BadRow => k_is)
    (case xq_NoVillage_BadRow => rfl)
    (case xa_NoRoad => k_is)
    (case xn_NoRoad => k_is)
    (case xc_NoRoad => k_is)
    (case xb_NoRoad => k_is)
    (case xo_NoRoad => k_is)
    (case xl_NoRoad => k_is)
    (case xt_NoRoad => k_is)
    (case xv_NoRoad => k_is)
    (case xr_NoRoad => k_exc)
    (case xk_NoRoad_RoadError => k_is)
    (case xq_NoRoad_RoadError => rfl)
    (case xk_NoRoad_BadTree => k_is)
    (case xq_NoRoad_BadTree => rfl)
    (case xk_NoRoad_NoVillage => k_is)
    (case xq_NoRoad_NoVillage => rfl)
    (case xk_NoRoad_BadNumber => k_is)
    (case xq_NoRoad_BadNumber => rfl)
    (case xk_NoRoad_BadRow => k_is)
    (case xq_NoRoad_BadRow => rfl)
    (case xa_BadNumber => k_is)
    (case xn_BadNumber => k_is)
    (case xc_BadNumber => k_is)
    (case xb_BadNumber => k_is)
    (case xo_BadNumber => k_is)
    (case xl_BadNumber => k_is)
    (case xt_BadNumber => k_is)
    (case xv_BadNumber => k_is)
    (case xr_BadNumber => k_exc)
    (case xk_BadNumber_RoadError => k_is)
    (case xq_BadNumber_RoadError => rfl)
    (case xk_BadNumber_BadTree => k_is)
    (case xq_BadNumber_BadTree => rfl)
    (case xk_BadNumber_NoVillage => k_is)
    (case xq_BadNumber_NoVillage => rfl)
    (case xk_BadNumber_NoRoad => k_is)
    (case xq_BadNumber_NoRoad => rfl)
    (case xk_BadNumber_BadRow => k_is)
    (case xq_BadNumber_BadRow => rfl)
    (case xa_BadRow => k_is)
    (case xn_BadRow => k_is)
    (case xc_BadRow => k_is)
    (case xb_BadRow => k_is)
    (case xo_BadRow => k_is)
    (case xl_BadRow => k_is)
    (case xt_BadRow => k_is)
    (case xv_BadRow => k_is)
    (case xi_BadRow => kernel_rfl)
    (case xs_BadRow => k_is)
    (case xp_BadRow => kernel_rfl)
    (case xd_BadRow => k_is)
    (case xf_row_BadRow => k_is)
    (case xk_BadRow_RoadError => k_is)
    (case xq_BadRow_RoadError => rfl)
    (case xk_BadRow_BadTree => k_is)
    (case xq_BadRow_BadTree => rfl)
    (case xk_BadRow_NoVillage => k_is)
    (case xq_BadRow_NoVillage => rfl)
    (case xk_BadRow_NoRoad => k_is)
    (case xq_BadRow_NoRoad => rfl)
    (case xk_BadRow_BadNumber => k_is)
    (case xq_BadRow_BadNumber => rfl)
    (case z_ValueError => k_is)
    (case z_all => k_is)
    (case z_any => k_is)
    (case z_bool => k_is)
    (case z_int => k_is)
    (case z_isinstance => k_is)
    (case z_len => k_is)
    (case z_list => k_is)
    (case z_range => k_is)
    (case z_str => k_is)
    (case z_tuple => k_is)
    (case g_MOST_VILLAGES => k_is)
    (case g_MOST_LENGTH => k_is)
    (case g_FIGURES => k_is)
    (case g_MOST_FIGURES => k_is)
