import PyProof.Rows.All
import Wide.All
import OpenK.AllK
import Wide.FinOn
import Lean
import PyProof.EqAt
import PyProof.EqKinds
import PyProof.TupleCall
import PyProof.ReprLen
import KE.KIsAll
import PyProof.ExcArgsOwn
import PyProof.NsDelKeeps
import KE.KTryMore
import PyProof.InstStoreFacts
import PyProof.ExcInit
import PyProof.ExcClass2
import PyProof.Rows.ListMul
import PySem.Challenge.RW_cutstree_k90_classes
set_option Elab.async false
section
-- CHANGE: your row's module here, as the last of these rows
set_option Elab.async false
set_option linter.all false
set_option maxRecDepth 100000
/-! THE HAND LAYER, for ints, bools, texts, own classes, LISTS and tuples (index, slices, in, append, pop ..), calls, loops. Paste it whole ahead of your own text; what your proof does not reach may be deleted. -/
namespace L2
open PySem PySem.Spec PyProof.Rows

/-- a key: an int or a str -/
abbrev Key := Sum Int Str
def keyIs : Key → Value → Bool
  | .inl k, v => Value.isInt k v
  | .inr x, v => Value.isStrOf x v
def keyH (w : World) : Key → Int
  | .inl k => hashInt k
  | .inr x => hashStr w x
theorem keyIs_shape : ∀ {k : Key} {v : Value}, keyIs k v = true → (∃ i t, k = Sum.inl i ∧ v = Value.int i t) ∨ (∃ x t, k = Sum.inr x ∧ v = Value.str x t)
  | .inl i, v, h => by
    obtain ⟨t, e⟩ := Value.isInt_shape (k := i) (v := v) h
    exact .inl ⟨i, t, rfl, e⟩
  | .inr x, v, h => by
    obtain ⟨t, e⟩ := Value.isStrOf_shape (x := x) (v := v) h
    exact .inr ⟨x, t, rfl, e⟩
theorem key_ll (a b : Int) : decide ((Sum.inl a : Key) = Sum.inl b) = (a == b) := by
  by_cases e : a = b
  · subst e; simp
  · have h : ¬ (Sum.inl a : Key) = Sum.inl b := fun q => e (Sum.inl.inj q)
    rw [decide_eq_false h]
    exact (beq_eq_false_iff_ne.mpr e).symm
theorem key_rr (a b : Str) : decide ((Sum.inr a : Key) = Sum.inr b) = decide (a = b) := by
  by_cases e : a = b
  · subst e; simp
  · have h : ¬ (Sum.inr a : Key) = Sum.inr b := fun q => e (Sum.inr.inj q)
    rw [decide_eq_false h, decide_eq_false e]
theorem key_lr (a : Int) (b : Str) : decide ((Sum.inl a : Key) = Sum.inr b) = false := decide_eq_false (fun q => nomatch q)
theorem key_rl (a : Str) (b : Int) : decide ((Sum.inr a : Key) = Sum.inl b) = false := decide_eq_false (fun q => nomatch q)

def mixKind (prog : Program) (w : World) : PySem.KeyKind prog w Key where
  is := keyIs
  hash := keyH w
  inj := fun v a b ha hb => by
    rcases keyIs_shape ha with ⟨i, t, rfl, rfl⟩ | ⟨x, t, rfl, rfl⟩
    · rcases keyIs_shape hb with ⟨j, u, rfl, e⟩ | ⟨y, u, rfl, e⟩
      · injection e with e1 _; rw [e1]
      · exact nomatch e
    · rcases keyIs_shape hb with ⟨j, u, rfl, e⟩ | ⟨y, u, rfl, e⟩
      · exact nomatch e
      · injection e with e1 _; rw [e1]
  byValue := fun k v h => by
    rcases keyIs_shape h with ⟨i, t, rfl, rfl⟩ | ⟨x, t, rfl, rfl⟩ <;> rfl
  pyHash := fun hv h => by
    rcases keyIs_shape hv with ⟨i, t, rfl, rfl⟩ | ⟨x, t, rfl, rfl⟩
    · exact wpAny_pyHash_int h
    · exact wpAny_pyHash_str h
  eqBool := fun hu hv h => by
    rcases keyIs_shape hu with ⟨i, t, rfl, rfl⟩ | ⟨x, t, rfl, rfl⟩
    · rcases keyIs_shape hv with ⟨j, u, rfl, rfl⟩ | ⟨y, u, rfl, rfl⟩
      · rw [key_ll] at h; exact wpAny_eqBool_int h
      · rw [key_lr] at h; exact SeqAt.EqAt.int_str i t y u _ _ _ _ h
    · rcases keyIs_shape hv with ⟨j, u, rfl, rfl⟩ | ⟨y, u, rfl, rfl⟩
      · rw [key_rl] at h; exact SeqAt.EqAt.str_int x t j u _ _ _ _ h
      · rw [key_rr] at h; exact wpAny_eqBool_str h
  «strs» := fun k x t v h => by
    rcases keyIs_shape h with ⟨i, u, rfl, e⟩ | ⟨y, u, rfl, e⟩
    · exact nomatch e
    · injection e with e1 _
      subst e1
      cases v <;> rfl

end L2

namespace L2
open PySem PySem.Spec PyProof.Rows

/-- a value, without the heap -/
inductive V where
  | non | bl (b : Bool) | int (i : Int) | str (x : Str) | byt (b : Array UInt8) | flt (b : UInt64) | ref (a : Addr) | ty (n : String)
  deriving DecidableEq

def RelV : V → Value → Prop
  | .non, u => u = Value.none
  | .bl b, u => u = Value.bool b
  | .int i, u => ∃ t, u = Value.int i t
  | .str x, u => ∃ t, u = Value.str x t
  | .byt b, u => ∃ t, u = Value.bytes b t
  | .flt b, u => ∃ t, u = Value.float b t
  | .ref a, u => u = Value.ref a
  | .ty n, u => u = Value.type n

abbrev Vals : List V → List Value → Prop := Paired RelV
theorem Vals.length {xs : List V} {us : List Value} (r : Vals xs us) : xs.length = us.length := Paired.length r
theorem Vals.get : ∀ {xs : List V} {us : List Value} {i : Nat} {x : V}, Vals xs us → xs[i]? = some x → ∃ u, us[i]? = some u ∧ RelV x u
  | _, _, _, _, .nil, e => by simp at e
  | _, _, 0, _, .cons r _, e => by simp at e; subst e; exact ⟨_, rfl, r⟩
  | _, _, i + 1, x, .cons _ t, e => by
    obtain ⟨u, h1, h2⟩ := Vals.get (i := i) (x := x) t (by simpa using e)
    exact ⟨u, by simpa using h1, h2⟩
theorem Vals.set {x : V} {u : Value} (r : RelV x u) : ∀ {xs : List V} {us : List Value} (i : Nat), Vals xs us → Vals (xs.set i x) (us.set i u)
  | _, _, _, .nil => .nil
  | _, _, 0, .cons _ t => .cons r t
  | _, _, i + 1, .cons q t => .cons q (Vals.set r i t)
theorem Vals.append : ∀ {xs ys : List V} {us ws : List Value}, Vals xs us → Vals ys ws → Vals (xs ++ ys) (us ++ ws)
  | _, _, _, _, .nil, s => s
  | _, _, _, _, .cons r t, s => .cons r (Vals.append t s)
theorem Vals.take : ∀ {xs : List V} {us : List Value} (n : Nat), Vals xs us → Vals (xs.take n) (us.take n)
  | _, _, 0, _ => .nil
  | _, _, _ + 1, .nil => .nil
  | _, _, n + 1, .cons r t => .cons r (Vals.take n t)
theorem Vals.drop : ∀ {xs : List V} {us : List Value} (n : Nat), Vals xs us → Vals (xs.drop n) (us.drop n)
  | _, _, 0, r => r
  | _, _, _ + 1, .nil => .nil
  | _, _, n + 1, .cons _ t => Vals.drop n t

def RelO : Option V → Option Value → Prop
  | some v, some u => RelV v u
  | none, none => True
  | _, _ => False
def KV {κ : Type} : List (κ × V) → List (κ × Value) → Prop := Paired fun (p : κ × V) (q : κ × Value) => p.1 = q.1 ∧ RelV p.2 q.2

/-- a key of a dict (00_mix): an int or a text -/
def kV : Key → V
  | .inl i => .int i
  | .inr x => .str x

/-- what stands at a tracked address -/
inductive HO where
  /-- a list -/
  | lst (xs : List V)
  /-- a tuple (never changes) -/
  | tup (xs : List V)
  /-- a dict whose keys are ints and texts; one whose keys are tuples of ints and texts (the empty one is both) -/
  | dK (kvs : List (Key × V)) | dT (kvs : List (List Key × V))
  /-- a set of ints: its members, its size -/
  | set (S : Int → Bool) (n : Nat)
  /-- an instance of the class at C, its dict at dx, its attributes -/
  | ins (C dx : Addr) (fs : List (Str × V))
  /-- the dict of the instance at x -/
  | own (x : Addr)
  /-- the dict of an exception -/
  | xd (fs : List (Str × V))
  /-- a bound method, f of x -/
  | met (f x : Addr)
  /-- a range object lo, lo + 1, .. below hi -/
  | rng (lo hi : Int)
  /-- a thing that is known to the object (the script; a dict while a loop walks it): read, never written while it is so -/
  | frz (o : Obj) (u : HO)
  /-- a code object's table -/
  | tbl (ps : Array Value)
  /-- any other thing, by what is true of its one object (a def of one's own: SetO a S n := HO.ext fun h => ..) -/
  | ext (φ : Heap → Prop)

abbrev Hp := Addr → Option HO
def upd (H : Hp) (a : Addr) (o : HO) : Hp := fun b => if b = a then some o else H b
theorem upd_same {H : Hp} {a : Addr} {o : HO} : upd H a o a = some o := by unfold upd; rw [if_pos rfl]
theorem upd_ne {H : Hp} {a b : Addr} {o : HO} (h : b ≠ a) : upd H a o b = H b := by unfold upd; rw [if_neg h]
/-- two objects of different content stand apart -/
theorem ne_of {H : Hp} {a b : Addr} {o u : HO} (h : H a = some o) (h' : H b = some u) (d : o ≠ u) : a ≠ b := by
  intro e; subst e; rw [h] at h'; exact d (Option.some.inj h')
theorem ne_of_none {H : Hp} {a b : Addr} {o : HO} (h : H a = some o) (h' : H b = none) : a ≠ b := by
  intro e; subst e; rw [h] at h'; cases h'

section
variable (P : Program) (w : World)
def ObjOk (H : Hp) (h : Heap) (a : Addr) : HO → Prop
  | .lst xs => xs.length ≤ sizeLine ∧ ∃ (its : List Value) (n : Nat), Vals xs its ∧ h.get? a = some { cls := .type "list", data := .seq its.toArray n }
  | .tup xs => xs.length ≤ sizeLine ∧ ∃ its : List Value, Vals xs its ∧ IsTup h a its.toArray
  | .dK kvs => kvs.length ≤ sizeLine ∧ (a == sysModules) = false ∧ ∃ vs, KV kvs vs ∧ h.DictOf (mixKind P w) a vs
  | .dT kvs => kvs.length ≤ sizeLine ∧ (a == sysModules) = false ∧ ∃ xs : List (List Key × Addr × Value),
      Paired (fun (p : List Key × V) (q : List Key × Addr × Value) => p.1 = q.1 ∧ H q.2.1 = some (.tup (p.1.map kV)) ∧ RelV p.2 q.2.2) kvs xs ∧
      ∃ o es ep, h.get? a = some o ∧ o.ExactDict ∧ o.data = .dict es ep ∧ es.toList = xs.map (entryOfKey (tupleKind (mixKind P w))) ∧ (xs.map (·.1)).Nodup
  | .set S n => h.SetOf (intKind P w) a S n
  | .ins C dx fs => H dx = some (.own a) ∧ fs.length ≤ 1000 ∧ dx ≠ a ∧ h.get? a = some (PySem.W.instObj C dx) ∧
      ∃ mA, h.Ns1 dx mA ∧ (∀ f, RelO (fs.lookup f) (mA f)) ∧ PySem.Within mA (fs.map (·.1))
  | .own _ => ∃ o, h.get? a = some o
  | .xd fs => ∃ mA, h.Ns1 a mA ∧ ∀ f, RelO (fs.lookup f) (mA f)
  | .rng lo hi => ∃ t u v, h.get? a = some { cls := .type "range", data := .fields #[.int lo t, .int hi u, .int 1 v] }
  | .frz o u => h.get? a = some o ∧ ObjOk H h a u
  | .tbl ps => h.get? a = some { cls := .none, data := .fields ps }
  | .met f x => h.get? a = some (PySem.W.methodObj (.ref f) (.ref x))
  | .ext φ => φ h ∧ (∃ o, h.get? a = some o) ∧ ∀ h1 h2 : Heap, φ h1 → (∀ o, h1.get? a = some o → h2.get? a = some o) → φ h2
/-- the abstract heap is held -/
def HOk (H : Hp) (h : Heap) : Prop := ∀ a o, H a = some o → ObjOk P w H h a o
end

section
variable {P : Program} {w : World} {H H' : Hp} {h h' : Heap} {a : Addr} {o : HO}
theorem ObjOk.lt (x : ObjOk P w H h a o) : a < h.objs.size := by
  cases o with
  | lst xs => obtain ⟨_, _, _, _, e⟩ := x; exact Heap.lt_size e
  | tup xs => obtain ⟨_, _, _, p⟩ := x; exact p.lt
  | dK kvs => obtain ⟨_, _, _, _, o, _, _, e, _⟩ := x; exact Heap.lt_size e
  | dT kvs => obtain ⟨_, _, _, _, o, _, _, e, _⟩ := x; exact Heap.lt_size e
  | set S n => obtain ⟨o, _, _, _, e, _⟩ := x; exact Heap.lt_size e
  | ins C dx fs => obtain ⟨_, _, _, e, _⟩ := x; exact Heap.lt_size e
  | own y => obtain ⟨_, e⟩ := x; exact Heap.lt_size e
  | xd fs => obtain ⟨_, ⟨_, _, _, e, _⟩, _⟩ := x; exact Heap.lt_size e
  | rng lo hi => obtain ⟨_, _, _, e⟩ := x; exact Heap.lt_size e
  | frz ob u => obtain ⟨e, _⟩ := x; exact Heap.lt_size e
  | tbl ps => exact Heap.lt_size (show h.get? a = some _ from x)
  | met f y => exact Heap.lt_size (show h.get? a = some _ from x)
  | ext φ => obtain ⟨_, ⟨_, e⟩, _⟩ := x; exact Heap.lt_size e
theorem Paired.mapP {α β : Type} {F G : α → β → Prop} : ∀ {l₁ : List α} {l₂ : List β}, Paired F l₁ l₂ → (∀ a b, F a b → G a b) → Paired G l₁ l₂
  | _, _, .nil, _ => .nil
  | _, _, .cons r t, f => .cons (f _ _ r) (Paired.mapP t f)
/-- what an object's description leans on: its own object, its own dict, the tuples -/
theorem ObjOk.stay (x : ObjOk P w H h a o) (k : ∀ b u, (b = a ∨ H b = some (.own a)) → h.get? b = some u → h'.get? b = some u)
    (ho : ∀ b, H b = some (.own a) → H' b = some (.own a)) (ht : ∀ b xs, H b = some (.tup xs) → H' b = some (.tup xs)) : ObjOk P w H' h' a o := by
  induction o with
  | lst xs => obtain ⟨z, its, n, r, e⟩ := x; exact ⟨z, its, n, r, k _ _ (.inl rfl) e⟩
  | tup xs => obtain ⟨z, its, r, ob, e, c⟩ := x; exact ⟨z, its, r, ob, k _ _ (.inl rfl) e, c⟩
  | dK kvs => obtain ⟨z, y, vs, r, ob, es, ep, e, c⟩ := x; exact ⟨z, y, vs, r, ob, es, ep, k _ _ (.inl rfl) e, c⟩
  | dT kvs =>
    obtain ⟨z, y, xs, r, ob, es, ep, e, c⟩ := x
    exact ⟨z, y, xs, Paired.mapP r fun p q z => ⟨z.1, ht _ _ z.2.1, z.2.2⟩, ob, es, ep, k _ _ (.inl rfl) e, c⟩
  | set S n => obtain ⟨ob, es, ep, t, e, c⟩ := x; exact ⟨ob, es, ep, t, k _ _ (.inl rfl) e, c⟩
  | ins C dx fs =>
    obtain ⟨d, z, ne, e, mA, ⟨od, es, ep, e2, c⟩, r⟩ := x
    exact ⟨ho _ d, z, ne, k _ _ (.inl rfl) e, mA, ⟨od, es, ep, k _ _ (.inr d) e2, c⟩, r⟩
  | own y => obtain ⟨ob, e⟩ := x; exact ⟨ob, k _ _ (.inl rfl) e⟩
  | xd fs => obtain ⟨mA, ⟨od, es, ep, e, c⟩, r⟩ := x; exact ⟨mA, ⟨od, es, ep, k _ _ (.inl rfl) e, c⟩, r⟩
  | rng lo hi => obtain ⟨t, u, v, e⟩ := x; exact ⟨t, u, v, k _ _ (.inl rfl) e⟩
  | frz ob u ih => obtain ⟨e, q⟩ := x; exact ⟨k _ _ (.inl rfl) e, ih q⟩
  | tbl ps =>
    have e : h.get? a = some { cls := .none, data := .fields ps } := x
    show h'.get? a = some { cls := .none, data := .fields ps }
    exact k a _ (.inl rfl) e
  | met f y =>
    have e : h.get? a = some (PySem.W.methodObj (.ref f) (.ref y)) := x
    show h'.get? a = some (PySem.W.methodObj (.ref f) (.ref y))
    exact k a _ (.inl rfl) e
  | ext φ => obtain ⟨p, ⟨o, e⟩, st⟩ := x; exact ⟨st _ _ p fun o q => k _ _ (.inl rfl) q, ⟨o, k _ _ (.inl rfl) e⟩, st⟩
theorem HOk.lt (x : HOk P w H h) (e : H a = some o) : a < h.objs.size := (x a o e).lt
theorem HOk.fresh (x : HOk P w H h) (e : h.objs.size ≤ a) : H a = none := by
  cases q : H a with
  | none => rfl
  | some u => exact absurd (Nat.lt_of_lt_of_le (x.lt q) e) (Nat.lt_irrefl _)
/-- every object of the heap is kept -/
theorem HOk.kept (x : HOk P w H h) (k : ∀ b u, h.get? b = some u → h'.get? b = some u) : HOk P w H h' := fun a o e =>
  (x a o e).stay (fun b u _ q => k b u q) (fun _ q => q) fun _ _ q => q
/-- a new object is laid and tracked -/
theorem HOk.laid (x : HOk P w H h) (k : ∀ b u, h.get? b = some u → h'.get? b = some u) (hp : h.objs.size ≤ a) (new : ObjOk P w (upd H a o) h' a o) : HOk P w (upd H a o) h' := fun b u e => by
  have hn := x.fresh hp
  by_cases hb : b = a
  · subst hb; rw [upd_same] at e; cases e; exact new
  · rw [upd_ne hb] at e
    exact (x b u e).stay (fun c v _ q => k c v q) (fun c q => by rw [upd_ne (ne_of_none q hn)]; exact q) fun c xs q => by rw [upd_ne (ne_of_none q hn)]; exact q
end

/-- what may be read as u: it is u, or a known u -/
def Rd (H : Hp) (a : Addr) (u : HO) : Prop := H a = some u ∨ ∃ o, H a = some (.frz o u)
theorem Rd.of {H : Hp} {a : Addr} {u : HO} (h : H a = some u) : Rd H a u := .inl h
theorem Rd.ok {P : Program} {w : World} {H : Hp} {h : Heap} {a : Addr} {u : HO} (r : Rd H a u) (x : HOk P w H h) : ObjOk P w H h a u := by
  rcases r with r | ⟨o, r⟩
  · exact x a u r
  · obtain ⟨_, q⟩ := x a _ r
    exact q
/-- what may be written -/
def Mut : Option HO → Prop
  | some (.lst _) => True
  | some (.dK _) => True
  | some (.dT _) => True
  | some (.set _ _) => True
  | some (.ins _ _ _) => True
  | some (.ext _) => True
  | _ => False
section
variable {P : Program} {w : World} {H : Hp} {h h' : Heap} {x e : Addr} {o' : HO}
/-- the object at e is changed: x itself, or the dict of the instance x -/
theorem HOk.write (ok : HOk P w H h) (mu : Mut (H x)) (he : e = x ∨ H e = some (.own x)) (k : ∀ b u, b ≠ e → h.get? b = some u → h'.get? b = some u) (heo : ∃ u, h'.get? e = some u)
    (new : ObjOk P w (upd H x o') h' x o') : HOk P w (upd H x o') h' := fun b u q => by
  have nown : ∀ c y, H c = some (.own y) → c ≠ x := fun c y r z => by subst z; rw [r] at mu; exact mu
  have ntup : ∀ c xs, H c = some (.tup xs) → c ≠ x := fun c xs r z => by subst z; rw [r] at mu; exact mu
  by_cases hb : b = x
  · subst hb; rw [upd_same] at q; cases q; exact new
  · rw [upd_ne hb] at q
    by_cases hbe : b = e
    · have q' : H b = some (.own x) := by
        rcases he with z | z
        · exact absurd (hbe.trans z) hb
        · rw [hbe]; exact z
      rw [q] at q'; cases q'
      obtain ⟨v, hv⟩ := heo
      exact ⟨v, by rw [hbe]; exact hv⟩
    · refine (ok b u q).stay (fun c v hc r => k c v ?_ r) (fun c r => by rw [upd_ne (nown c b r)]; exact r) fun c xs r => by rw [upd_ne (ntup c xs r)]; exact r
      rcases hc with rfl | hc
      · exact hbe
      · rintro rfl
        rcases he with z | z
        · exact nown c b hc z
        · rw [hc] at z; cases z; exact hb rfl
end

/-! ### kept unless tracked; of the frames at fs (the callers') the slots may change (an exception that passes writes there); of the records at ex (iterators) nothing is said -/
structure Un (fs ex : List Addr) (H H' : Hp) (h h' : Heap) : Prop where
  keep : ∀ b o, h.get? b = some o → H b = none → b ∉ fs → b ∉ ex → h'.get? b = some o
  slot : ∀ b o, h.get? b = some o → H b = none → b ∈ fs → b ∉ ex → ∃ sl, h'.get? b = some { o with slots := sl }
  free : ∀ b o, h.get? b = some o → H b = none → b ∉ ex → H' b = none
  there : ∀ b o, h.get? b = some o → b ∉ ex → ∃ o', h'.get? b = some o'
  tups : ∀ b xs, H b = some (.tup xs) → H' b = some (.tup xs)
  frzs : ∀ b o u, H b = some (.frz o u) → H' b = some (.frz o u)
  tbls : ∀ b ps, H b = some (.tbl ps) → ∃ more, H' b = some (.tbl (ps ++ more))
section
variable {fs fs' ex ex' : List Addr} {H H1 H2 : Hp} {h h1 h2 h' : Heap} {a x e : Addr} {o : HO}
theorem Un.any (u : Un fs ex H H1 h h1) {b : Addr} {ob : Obj} (q : h.get? b = some ob) (n : H b = none) (hx : b ∉ ex) : ∃ sl, h1.get? b = some { ob with slots := sl } := by
  by_cases hb : b ∈ fs
  · exact u.slot b ob q n hb hx
  · exact ⟨ob.slots, u.keep b ob q n hb hx⟩
theorem Un.trans (a : Un fs ex H H1 h h1) (b : Un fs ex H1 H2 h1 h2) : Un fs ex H H2 h h2 where
  keep := fun c ob q n hc hx => b.keep c ob (a.keep c ob q n hc hx) (a.free c ob q n hx) hc hx
  slot := fun c ob q n hc hx => by
    obtain ⟨sl, e1⟩ := a.slot c ob q n hc hx
    obtain ⟨sl', e2⟩ := b.slot c _ e1 (a.free c ob q n hx) hc hx
    exact ⟨sl', e2⟩
  free := fun c ob q n hx => by
    obtain ⟨o', e1⟩ := a.there c ob q hx
    exact b.free c o' e1 (a.free c ob q n hx) hx
  there := fun c ob q hx => by
    obtain ⟨o', e1⟩ := a.there c ob q hx
    exact b.there c o' e1 hx
  tups := fun c xs q => b.tups c xs (a.tups c xs q)
  frzs := fun c ob xs q => b.frzs c ob xs (a.frzs c ob xs q)
  tbls := fun c ps q => by
    obtain ⟨m1, e1⟩ := a.tbls c ps q
    obtain ⟨m2, e2⟩ := b.tbls c _ e1
    exact ⟨m1 ++ m2, by rw [e2, Array.append_assoc]⟩
theorem Un.kept (k : ∀ b u, h.get? b = some u → h'.get? b = some u) : Un fs ex H H h h' :=
  ⟨fun b ob q _ _ _ => k b ob q, fun b ob q _ _ _ => ⟨ob.slots, k b ob q⟩, fun _ _ _ n _ => n, fun b ob q _ => ⟨ob, k b ob q⟩, fun _ _ q => q, fun _ _ _ q => q, fun _ ps q => ⟨#[], by rw [q]; simp⟩⟩
theorem Un.refl : Un fs ex H H h h := Un.kept fun _ _ q => q
theorem Un.laid (k : ∀ b u, h.get? b = some u → h'.get? b = some u) (hp : h.objs.size ≤ a) (hn : H a = none) : Un fs ex H (upd H a o) h h' where
  keep := fun b u q _ _ _ => k b u q
  slot := fun b u q _ _ _ => ⟨u.slots, k b u q⟩
  free := fun b u q n _ => by rw [upd_ne (Nat.ne_of_lt (Nat.lt_of_lt_of_le (Heap.lt_size q) hp))]; exact n
  there := fun b u q _ => ⟨u, k b u q⟩
  tups := fun b xs q => by rw [upd_ne (ne_of_none q hn)]; exact q
  frzs := fun b u xs q => by rw [upd_ne (ne_of_none q hn)]; exact q
  tbls := fun b ps q => ⟨#[], by rw [upd_ne (ne_of_none q hn), q]; simp⟩
theorem Un.write (mu : Mut (H x)) (he : e = x ∨ H e = some (.own x)) (k : ∀ b u, b ≠ e → h.get? b = some u → h'.get? b = some u) (heo : ∃ u, h'.get? e = some u) : Un fs ex H (upd H x o) h h' := by
  have hx : ∀ b, H b = none → b ≠ x := fun b n z => by subst z; rw [n] at mu; exact mu
  have hb : ∀ b, H b = none → b ≠ e := fun b n z => by
    subst z
    rcases he with r | r
    · exact hx b n r
    · rw [n] at r; cases r
  have hm : ∀ b u, H b = some u → ¬ Mut (some u) → b ≠ x := fun b u q nm z => by subst z; rw [q] at mu; exact nm mu
  refine ⟨fun b u q n _ _ => k b u (hb b n) q, fun b u q n _ _ => ⟨u.slots, k b u (hb b n) q⟩, fun b u q n _ => by rw [upd_ne (hx b n)]; exact n, fun b u q _ => ?_,
    fun b xs q => by rw [upd_ne (hm b _ q fun z => z)]; exact q, fun b u xs q => by rw [upd_ne (hm b _ q fun z => z)]; exact q, fun b ps q => ⟨#[], by rw [upd_ne (hm b _ q fun z => z), q]; simp⟩⟩
  by_cases hbe : b = e
  · subst hbe; exact heo
  · exact ⟨u, k b u hbe q⟩
theorem Un.mono (u : Un fs ex H H1 h h1) (hs : ∀ b ∈ fs, b ∈ fs') (hx : ∀ b ∈ ex, b ∈ ex') : Un fs' ex' H H1 h h1 :=
  ⟨fun b ob q n hb he => u.keep b ob q n (fun z => hb (hs b z)) fun z => he (hx b z), fun _ _ q n _ he => u.any q n fun z => he (hx _ z), fun b ob q n he => u.free b ob q n fun z => he (hx b z), fun b ob q he => u.there b ob q fun z => he (hx b z), u.tups, u.frzs, u.tbls⟩
end

/-! ### the heap without what is tracked -/
def trk (h : Heap) (H : Hp) : List Addr := (List.range h.objs.size).filter fun a => (H a).isSome
def hidT (h : Heap) (H : Hp) : Heap := PySem.W.hideAll h (trk h H)
theorem hidT_size (h : Heap) (H : Hp) : (hidT h H).objs.size = h.objs.size := PySem.W.hideAll_size _ _
theorem hidT_get {h : Heap} {H : Hp} {b : Addr} {o : Obj} (e : h.get? b = some o) (n : H b = none) : (hidT h H).get? b = some o :=
  PySem.W.hideAll_get _ e fun hm => by
    have q : (H b).isSome = true := (List.mem_filter.mp hm).2
    rw [n] at q; simp at q
theorem of_hidT {h : Heap} {H : Hp} {b : Addr} {o : Obj} (e : (hidT h H).get? b = some o) : h.get? b = some o ∧ H b = none := by
  have e' : h.get? b = some o := PySem.W.of_hideAll (trk h H) e
  refine ⟨e', ?_⟩
  cases q : H b with
  | none => rfl
  | some x =>
    have hm : b ∈ trk h H := List.mem_filter.mpr ⟨List.mem_range.mpr (Heap.lt_size e'), by simp [q]⟩
    have z : (hidT h H).get? b = none := PySem.W.hideAll_none (trk h H) hm
    rw [z] at e; cases e

/-! ### OpenK's ledger, filled with every new object but one -/
def allNews (g h : Heap) (L : Addr) : List (Addr × Obj) := (List.range h.objs.size).filterMap fun a => if a = L ∨ (g.get? a).isSome = true then none else (h.get? a).map fun o => (a, o)
theorem mem_allNews {g h : Heap} {L a : Addr} {o : Obj} (h1 : a ≠ L) (h2 : g.get? a = none) (h3 : h.get? a = some o) : (a, o) ∈ allNews g h L :=
  List.mem_filterMap.mpr ⟨a, List.mem_range.mpr (Heap.lt_size h3), by simp [h1, h2, h3]⟩
theorem of_mem_allNews {g h : Heap} {L : Addr} {p : Addr × Obj} (hp : p ∈ allNews g h L) : p.1 ≠ L ∧ g.get? p.1 = none ∧ h.get? p.1 = some p.2 := by
  obtain ⟨b, _, e⟩ := List.mem_filterMap.mp hp
  split at e
  · cases e
  · rename_i hn
    cases q : h.get? b with
    | none => rw [q] at e; simp at e
    | some u =>
      rw [q] at e
      simp only [Option.map_some, Option.some.injEq] at e
      subst e
      refine ⟨fun z => hn (.inl z), ?_, q⟩
      show g.get? b = none
      cases r : g.get? b with
      | none => rfl
      | some v => exact (hn (.inr (by simp [r]))).elim
def rest (g h : Heap) (L d : Addr) : List (Addr × Obj) := (allNews g h L).filter fun p => decide (p.1 ≠ d)
theorem news_all {g h : Heap} {L : Addr} : News g L h (allNews g h L) := fun p hp => let ⟨a, b, c⟩ := of_mem_allNews hp; ⟨c, a, b⟩
end L2

namespace L2
open PySem PySem.Spec PyProof.Rows

/-- the module's facts, over the base: the heap at the law's entry without what is tracked there -/
structure Mod (K : PySem.W.Frag) (mg : Str → Option Value) (base : Heap) : Prop where
  kin : K.In base
  glob : base.Ns mainGlobals mg
  blt : ∃ mb, base.Ns builtinsNs mb ∧ ∀ x : Str, x ≠ "__name__" → mb x = bootBuiltins x
  nolimit : base.NoLimit
  sysm : ∃ o es ep, base.get? sysModules = some o ∧ o.data = .dict es ep

/-- the context: a def's body (or a comprehension's block) running. base: fixed through the whole law; s₀, H₀: the entry; outer: the frames whose slots others may change (a def's callers); stack: all frames that run;
   ex: iterators that were made ahead of the entry and are walked here (a comprehension's); fn: the names whose cells were made at the entry (a def: all; a comprehension's block: its own); calm: not within an except suite; pn: pins that every state bears; xe: what is wanted of an exception that leaves the code -/
structure Cx where
  prog : Program
  w : World
  K : PySem.W.Frag
  mg : Str → Option Value
  base : Heap
  A : Around
  N : List Str
  s₀ : Shared
  H₀ : Hp
  env : Env
  outer : List Env
  stack : List Env
  ex : List Addr
  fn : Str → Bool
  calm : Bool
  pn : List (Addr × Obj)
  xe : Value → Shared → Prop
/-- the callers' frames -/
def frs (l : List Env) : List Addr := l.filterMap (·.frame)
abbrev Cx.fs (X : Cx) : List Addr := frs X.outer

def Vis (sc : Scope) (x : Str) : Prop := sc.names.lookup x = some .local ∨ sc.names.lookup x = some .cell ∨ sc.names.lookup x = some .free
def Loc (sc : Scope) (x : Str) : Prop := sc.names.lookup x = some .local ∨ sc.names.lookup x = some .cell
def Look (env : Env) (h : Heap) (m : Str → Option Value) (x : Str) (u : Value) : Prop :=
  (env.kindOf x = some .local ∧ m x = some u) ∨ ((env.kindOf x = some .cell ∨ env.kindOf x = some .free) ∧ ∃ c, env.cells.lookup x = some c ∧ h.IsCell c (some u))

structure Cx.Ok (X : Cx) : Prop where
  mod : Mod X.K X.mg X.base
  kind : X.env.scope.kind = .function
  glob : X.env.globals = mainGlobals
  blt : X.env.builtins = builtinsNs
  above : X.s₀.heap.objs.size ≤ X.env.locals
  inj : ∀ x y c, X.env.cells.lookup x = some c → X.env.cells.lookup y = some c → x = y
  has : ∀ x, (X.env.kindOf x = some .cell ∨ X.env.kindOf x = some .free) → ∃ c, X.env.cells.lookup x = some c
  cab : ∀ x c, X.fn x = true → X.env.cells.lookup x = some c → X.s₀.heap.objs.size ≤ c
  hd : X.calm = true → X.A.handled = none
  frames : X.A.frames = some X.stack
  stk : X.stack = X.outer ∨ (X.stack = X.env :: X.outer ∧ X.env.frame = some X.env.locals)
  exf : ∀ b ∈ X.ex, b ≠ X.env.locals ∧ ∀ x c, X.env.cells.lookup x = some c → c ≠ b
  bs : ∀ b o, X.base.get? b = some o → X.s₀.heap.get? b = some o ∧ X.H₀ b = none
  bsz : X.base.objs.size ≤ X.s₀.heap.objs.size
  noex : ∀ b o, X.base.get? b = some o → b ∉ X.ex
  exfs : ∀ b ∈ X.ex, b ∉ X.fs
  funs : X.s₀.heap.FunFrames X.base X.outer
  frf : ∀ b ∈ X.fs, X.H₀ b = none

structure Inv (X : Cx) (pins : List (Addr × Obj)) (σ : List (Option V)) (H : Hp) (s : Shared) : Prop where
  ok : X.Ok
  os : s.os = X.s₀.os
  bare : AllBare s.gens
  base : Un X.fs X.ex X.H₀ H X.s₀.heap s.heap
  loc : ∃ m, s.heap.Ns X.env.locals m ∧ ∀ (i : Nat) (x : Str) (v : V), X.N[i]? = some x → σ[i]? = some (some v) → Vis X.env.scope x → ∃ u, RelV v u ∧ Look X.env s.heap m x u
  cell : ∀ x c, X.env.cells.lookup x = some c → ∃ v, s.heap.IsCell c v
  free : H X.env.locals = none
  freeC : ∀ x c, X.env.cells.lookup x = some c → H c = none
  pin : ∀ p ∈ X.pn ++ pins, s.heap.get? p.1 = some p.2 ∧ H p.1 = none ∧ p.1 ≠ X.env.locals ∧ p.1 ∉ X.fs ∧ ∀ v, p.2.data ≠ .cell v
  hok : HOk X.prog X.w H s.heap
  len : σ.length = X.N.length

section
variable {X : Cx} {pins : List (Addr × Obj)} {σ : List (Option V)} {H H' : Hp} {s : Shared} {h' : Heap}

theorem Cx.Ok.nofr (ok : X.Ok) {b : Addr} {o : Obj} (e : X.base.get? b = some o) : b ∉ X.fs := fun hb => by
  have := (ok.funs.mem hb).1
  rw [e] at this; cases this
theorem Inv.bs (I : Inv X pins σ H s) : ∀ b o, X.base.get? b = some o → s.heap.get? b = some o ∧ H b = none := fun b o e =>
  ⟨I.base.keep b o (I.ok.bs b o e).1 (I.ok.bs b o e).2 (I.ok.nofr e) (I.ok.noex b o e), I.base.free b o (I.ok.bs b o e).1 (I.ok.bs b o e).2 (I.ok.noex b o e)⟩
theorem Inv.bk (I : Inv X pins σ H s) : ∀ b o, X.base.get? b = some o → s.heap.get? b = some o := fun b o e => (I.bs b o e).1
theorem Inv.mod (I : Inv X pins σ H s) : Mod X.K X.mg X.base := I.ok.mod
theorem Inv.kIn (I : Inv X pins σ H s) : X.K.In s.heap := I.ok.mod.kin.keeps I.bk
theorem Inv.nolimit (I : Inv X pins σ H s) : s.heap.NoLimit := I.ok.mod.nolimit.keeps I.bk
/-- the frame over the base: for OpenK's rules (K.In X.base is I.mod.kin) -/
theorem Inv.fr (I : Inv X pins σ H s) : ∃ m, Fr X.base X.env.locals s.heap m :=
  let ⟨m, hn, _⟩ := I.loc
  ⟨m, hn, I.bk, Nat.le_trans I.ok.bsz I.ok.above⟩
theorem Inv.lt (I : Inv X pins σ H s) : X.env.locals < s.heap.objs.size := let ⟨_, hn, _⟩ := I.loc; hn.lt
theorem Inv.sz (I : Inv X pins σ H s) : X.s₀.heap.objs.size ≤ s.heap.objs.size := Nat.le_trans I.ok.above (Nat.le_of_lt I.lt)
theorem Inv.nofs (I : Inv X pins σ H s) {a : Addr} (h : s.heap.objs.size ≤ a) : a ∉ X.fs := fun hb => by
  obtain ⟨_, o, ho, _⟩ := I.ok.funs.mem hb
  exact absurd (Nat.lt_of_lt_of_le (Heap.lt_size ho) (Nat.le_trans I.sz h)) (Nat.lt_irrefl _)
theorem Inv.cne (I : Inv X pins σ H s) : ∀ x c, X.env.cells.lookup x = some c → c ≠ X.env.locals := fun x c e z => by
  obtain ⟨v, o, ho, hd⟩ := I.cell x c e
  obtain ⟨m, ⟨o', es, ep, ho', hd', _⟩, _⟩ := I.loc
  rw [z, ho'] at ho; cases ho; rw [hd'] at hd; cases hd
theorem Inv.funs (I : Inv X pins σ H s) : s.heap.FunFrames X.base X.outer := by
  have all : ∀ (l : List Env), (∀ b ∈ frs l, b ∈ X.fs) → X.s₀.heap.FunFrames X.base l → s.heap.FunFrames X.base l := by
    intro l
    induction l with
    | nil => intro _ _; trivial
    | cons env r ih =>
      intro hs hl
      obtain ⟨hk, ⟨L, o, hf, hn, ho, hd⟩, hr⟩ := hl
      have hL : L ∈ X.fs := hs L (by unfold frs; rw [List.filterMap_cons, hf]; exact List.mem_cons_self)
      obtain ⟨sl, e⟩ := I.base.slot L o ho (I.ok.frf L hL) hL fun z => I.ok.exfs L z hL
      exact ⟨hk, ⟨L, _, hf, hn, e, hd⟩, ih (fun b hb => hs b (by unfold frs; rw [List.filterMap_cons, hf]; exact List.mem_cons_of_mem _ hb)) hr⟩
  exact all X.outer (fun _ hb => hb) I.ok.funs

/-- the frames that run, for a call -/
theorem Inv.stack (I : Inv X pins σ H s) : s.heap.FunFrames X.base X.stack := by
  rcases I.ok.stk with e | ⟨e, hf⟩
  · rw [e]; exact I.funs
  · rw [e]
    obtain ⟨m, hn, _⟩ := I.loc
    refine .cons (by rw [I.ok.kind]; decide) hf hn ?_ I.funs
    exact Heap.get?_none_of_le (Nat.le_trans I.ok.bsz I.ok.above)
theorem Inv.stkSub (I : Inv X pins σ H s) : ∀ b ∈ frs X.stack, b ∈ X.env.locals :: X.fs := fun b hb => by
  rcases I.ok.stk with e | ⟨e, hf⟩
  · rw [e] at hb; exact List.mem_cons_of_mem _ hb
  · rw [e] at hb
    unfold frs at hb
    rw [List.filterMap_cons, hf] at hb
    exact hb
theorem Inv.stkFree (I : Inv X pins σ H s) : ∀ b ∈ frs X.stack, H b = none := fun b hb => by
  rcases List.mem_cons.mp (I.stkSub b hb) with e | hb
  · rw [e]; exact I.free
  · obtain ⟨_, o, ho, _⟩ := I.ok.funs.mem hb
    exact I.base.free b o ho (I.ok.frf b hb) fun z => I.ok.exfs b z hb

/-- THE STEP: the untracked objects but the frame and the records at ch are kept (the callers' frames up to slots), the frame's map is kept, the new abstract heap is held -/
theorem Inv.step {g' : Array GenState} {t' : Nat} {d' : Drawn} {ch : List Addr} (I : Inv X pins σ H s)
    (hch : ∀ b ∈ ch, (b ∈ X.ex ∨ X.s₀.heap.objs.size ≤ b) ∧ b ≠ X.env.locals ∧ (∀ x c, X.env.cells.lookup x = some c → c ≠ b) ∧ ∀ p ∈ X.pn ++ pins, p.1 ≠ b)
    (keep : ∀ b o, b ≠ X.env.locals → b ∉ X.fs → b ∉ ch → s.heap.get? b = some o → H b = none → h'.get? b = some o)
    (slot : ∀ b o, b ≠ X.env.locals → b ∈ X.fs → b ∉ ch → s.heap.get? b = some o → H b = none → ∃ sl, h'.get? b = some { o with slots := sl }) (free : ∀ b o, b ∉ ch → s.heap.get? b = some o → H b = none → H' b = none)
    (there : ∀ b o, b ∉ ch → s.heap.get? b = some o → ∃ o', h'.get? b = some o')
    (tups : ∀ b xs, H b = some (.tup xs) → H' b = some (.tup xs)) (frzs : ∀ b o u, H b = some (.frz o u) → H' b = some (.frz o u)) (tbls : ∀ b ps, H b = some (.tbl ps) → ∃ more, H' b = some (.tbl (ps ++ more)))
    (ns : ∀ m, s.heap.Ns X.env.locals m → h'.Ns X.env.locals m) (hok : HOk X.prog X.w H' h') (hg : AllBare g') :
    Inv X pins σ H' { s with heap := h', gens := g', drawn := d', toks := t' } := by
  have neL : ∀ b o, X.s₀.heap.get? b = some o → b ≠ X.env.locals := fun b o e => Nat.ne_of_lt (Nat.lt_of_lt_of_le (Heap.lt_size e) I.ok.above)
  have neC : ∀ b o, X.s₀.heap.get? b = some o → b ∉ X.ex → b ∉ ch := fun b o e hx hb => by
    rcases (hch b hb).1 with z | z
    · exact hx z
    · exact absurd (Nat.lt_of_lt_of_le (Heap.lt_size e) z) (Nat.lt_irrefl _)
  have cellK : ∀ x c, X.env.cells.lookup x = some c → ∀ v, s.heap.IsCell c v → h'.IsCell c v := fun x c e v ⟨o, ho, hd⟩ => by
    have nch : c ∉ ch := fun z => (hch c z).2.2.1 x c e rfl
    by_cases hc : c ∈ X.fs
    · obtain ⟨sl, q⟩ := slot c o (I.cne x c e) hc nch ho (I.freeC x c e)
      exact ⟨_, q, hd⟩
    · exact ⟨o, keep c o (I.cne x c e) hc nch ho (I.freeC x c e), hd⟩
  refine ⟨I.ok, I.os, hg, ⟨fun b o e n hb hx => ?_, fun b o e n hb hx => ?_, fun b o e n hx => ?_, fun b o e hx => ?_, fun b xs e => tups b xs (I.base.tups b xs e), fun b o xs e => frzs b o xs (I.base.frzs b o xs e), fun b ps e => ?_⟩, ?_, fun x c e => ?_, ?_, fun x c e => ?_, fun p hp => ?_, hok, I.len⟩
  · exact keep b o (neL b o e) hb (neC b o e hx) (I.base.keep b o e n hb hx) (I.base.free b o e n hx)
  · obtain ⟨sl, e1⟩ := I.base.slot b o e n hb hx
    obtain ⟨sl', e2⟩ := slot b _ (neL b o e) hb (neC b o e hx) e1 (I.base.free b o e n hx)
    exact ⟨sl', e2⟩
  · obtain ⟨o', e1⟩ := I.base.there b o e hx
    exact free b o' (neC b o e hx) e1 (I.base.free b o e n hx)
  · obtain ⟨o', e1⟩ := I.base.there b o e hx
    exact there b o' (neC b o e hx) e1
  · obtain ⟨m1, e1⟩ := I.base.tbls b ps e
    obtain ⟨m2, e2⟩ := tbls b _ e1
    exact ⟨m1 ++ m2, by rw [e2, Array.append_assoc]⟩
  · obtain ⟨m, hn, hl⟩ := I.loc
    refine ⟨m, ns m hn, fun i x v e1 e2 e3 => ?_⟩
    obtain ⟨u, r, l⟩ := hl i x v e1 e2 e3
    refine ⟨u, r, ?_⟩
    rcases l with l | ⟨k, c, e, z⟩
    · exact .inl l
    · exact .inr ⟨k, c, e, cellK x c e _ z⟩
  · obtain ⟨v, z⟩ := I.cell x c e
    exact ⟨v, cellK x c e v z⟩
  · obtain ⟨m, ⟨o, _, _, ho, _⟩, _⟩ := I.loc
    exact free _ o (fun z => (hch _ z).2.1 rfl) ho I.free
  · obtain ⟨v, o, ho, hd⟩ := I.cell x c e
    exact free c o (fun z => (hch c z).2.2.1 x c e rfl) ho (I.freeC x c e)
  · obtain ⟨e, n, ne, nf, d⟩ := I.pin p hp
    have nch : p.1 ∉ ch := fun z => (hch p.1 z).2.2.2 p hp rfl
    exact ⟨keep p.1 p.2 ne nf nch e n, free p.1 p.2 nch e n, ne, nf, d⟩
/-- .. where the frame's own object is kept too -/
theorem Inv.un {t' : Nat} (I : Inv X pins σ H s) (u : Un X.fs [] H H' s.heap h') (hok : HOk X.prog X.w H' h') : Inv X pins σ H' { s with heap := h', toks := t' } := by
  obtain ⟨m, ⟨o, es, ep, ho, r⟩, _⟩ := id I.loc
  obtain ⟨sl, hL⟩ := u.any ho I.free (by simp)
  exact I.step (g' := s.gens) (d' := s.drawn) (ch := []) (fun _ z => nomatch z) (fun b o _ hb _ e n => u.keep b o e n hb (by simp)) (fun b o _ hb _ e n => u.slot b o e n hb (by simp)) (fun b o _ e n => u.free b o e n (by simp)) (fun b o _ e => u.there b o e (by simp)) u.tups u.frzs u.tbls (fun m' hm => by
    obtain ⟨o', es', ep', ho', r'⟩ := hm
    rw [ho] at ho'; cases ho'
    exact ⟨_, es', ep', hL, r'⟩) hok I.bare
/-- behind a call (or a comprehension's block): the slots of this frame may have changed too, the records at ch may have turned -/
theorem Inv.call {g' : Array GenState} {t' : Nat} {d' : Drawn} {ch : List Addr} (I : Inv X pins σ H s) (u : Un (frs X.stack) ch H H' s.heap h') (hok : HOk X.prog X.w H' h') (hg : AllBare g')
    (hch : ∀ b ∈ ch, (b ∈ X.ex ∨ X.s₀.heap.objs.size ≤ b) ∧ b ≠ X.env.locals ∧ (∀ x c, X.env.cells.lookup x = some c → c ≠ b) ∧ ∀ p ∈ X.pn ++ pins, p.1 ≠ b) :
    Inv X pins σ H' { s with heap := h', gens := g', drawn := d', toks := t' } := by
  obtain ⟨m, ⟨o, es, ep, ho, r⟩, _⟩ := id I.loc
  obtain ⟨sl, hL⟩ := u.any ho I.free fun z => (hch _ z).2.1 rfl
  exact I.step (ch := ch) hch (fun b o hL hb hc e n => u.keep b o e n (fun z => (List.mem_cons.mp (I.stkSub b z)).elim hL hb) hc) (fun b o _ _ hc e n => u.any e n hc) (fun b o hc e n => u.free b o e n hc) (fun b o hc e => u.there b o e hc) u.tups u.frzs u.tbls (fun m' hm => by
    obtain ⟨o', es', ep', ho', r'⟩ := hm
    rw [ho] at ho'; cases ho'
    exact ⟨_, es', ep', hL, r'⟩) hok hg
/-- an untracked record of ours (an iterator) has turned -/
theorem Inv.turned {t' : Nat} {it : Addr} (I : Inv X pins σ H s) (k : ∀ b o, b ≠ it → s.heap.get? b = some o → h'.get? b = some o) (hn : H it = none) (hL : it ≠ X.env.locals)
    (h1 : it ∈ X.ex ∨ X.s₀.heap.objs.size ≤ it) (h2 : ∀ x c, X.env.cells.lookup x = some c → c ≠ it) (h3 : ∀ p ∈ X.pn ++ pins, p.1 ≠ it) : Inv X pins σ H { s with heap := h', toks := t' } := by
  have nit : ∀ b u, H b = some u → b ≠ it := fun b u e z => by rw [z, hn] at e; cases e
  refine I.step (g' := s.gens) (d' := s.drawn) (ch := [it]) (fun b hb => ?_) (fun b o _ _ hc e _ => k b o (fun z => hc (by simp [z])) e) (fun b o _ _ hc e _ => ⟨o.slots, k b o (fun z => hc (by simp [z])) e⟩) (fun _ _ _ _ n => n)
    (fun b o hc e => ⟨o, k b o (fun z => hc (by simp [z])) e⟩) (fun _ _ e => e) (fun _ _ _ e => e) (fun b ps e => ⟨#[], by rw [e]; simp⟩) (fun m hm => ?_) (fun b u e => ?_) I.bare
  · have e : b = it := by simpa using hb
    subst e
    exact ⟨h1, hL, h2, h3⟩
  · obtain ⟨o, es, ep, ho, r⟩ := hm
    exact ⟨o, es, ep, k _ o (Ne.symm hL) ho, r⟩
  · refine (I.hok b u e).stay (fun c v hc q => k c v ?_ q) (fun _ q => q) fun _ _ q => q
    rcases hc with z | z
    · rw [z]; exact nit b u e
    · exact nit c _ z
theorem Inv.tok (I : Inv X pins σ H s) (t : Nat) : Inv X pins σ H { s with toks := t } := I.un (h' := s.heap) (t' := t) Un.refl I.hok
/-- all objects kept -/
theorem Inv.kept {t' : Nat} (I : Inv X pins σ H s) (k : ∀ b u, s.heap.get? b = some u → h'.get? b = some u) : Inv X pins σ H { s with heap := h', toks := t' } := I.un (Un.kept k) (I.hok.kept k)
/-- a new object laid and tracked -/
theorem Inv.laid {a : Addr} {o : HO} {t' : Nat} (I : Inv X pins σ H s) (k : ∀ b u, s.heap.get? b = some u → h'.get? b = some u) (hp : s.heap.objs.size ≤ a) (new : ObjOk X.prog X.w (upd H a o) h' a o) :
    Inv X pins σ (upd H a o) { s with heap := h', toks := t' } := I.un (Un.laid k hp (I.hok.fresh hp)) (I.hok.laid k hp new)
/-- an object written -/
theorem Inv.write {x e : Addr} {o : HO} {t' : Nat} (I : Inv X pins σ H s) (mu : Mut (H x)) (he : e = x ∨ H e = some (.own x)) (k : ∀ b u, b ≠ e → s.heap.get? b = some u → h'.get? b = some u) (heo : ∃ u, h'.get? e = some u)
    (new : ObjOk X.prog X.w (upd H x o) h' x o) : Inv X pins σ (upd H x o) { s with heap := h', toks := t' } := I.un (Un.write mu he k heo) (I.hok.write mu he k heo new)
theorem Inv.pins_of {pins' : List (Addr × Obj)} (I : Inv X pins σ H s) (h : ∀ p ∈ pins', s.heap.get? p.1 = some p.2 ∧ H p.1 = none ∧ p.1 ≠ X.env.locals ∧ p.1 ∉ X.fs ∧ ∀ v, p.2.data ≠ .cell v) : Inv X pins' σ H s :=
  ⟨I.ok, I.os, I.bare, I.base, I.loc, I.cell, I.free, I.freeC, fun p hp => (List.mem_append.mp hp).elim (fun z => I.pin p (List.mem_append_left _ z)) (h p), I.hok, I.len⟩

theorem nodup_ix {N : List Str} (hN : N.Nodup) {i j : Nat} {x : Str} (a : N[i]? = some x) (b : N[j]? = some x) : i = j := by
  obtain ⟨h1, e1⟩ := List.getElem?_eq_some_iff.mp a
  obtain ⟨h2, e2⟩ := List.getElem?_eq_some_iff.mp b
  exact (List.getElem_inj hN).mp (e1.trans e2.symm)

/-- a name is stored; what changed -/
theorem store_ok2 {M : Model} {A : Around} {E : Value → Shared → Prop} {i : Nat} {x : Str} {v : V} {u : Value} {Q : Unit → Shared → Prop} (I : Inv X pins σ H s) (hN : X.N.Nodup) (hi : X.N[i]? = some x) (hx : Loc X.env.scope x) (r : RelV v u)
    (h : ∀ s', Inv X pins (σ.set i (some v)) H s' → (∃ a, Heap.SameBut a s.heap s'.heap ∧ (a = X.env.locals ∨ X.env.cells.lookup x = some a)) → Q () s') (hf : X.fn x = true ∨ X.env.scope.names.lookup x = some .local := by first | exact .inl rfl | exact .inr rfl | assumption) : wpAny M A (storeName X.env x u) Q E s := by
  obtain ⟨m, hn, hl⟩ := id I.loc
  have hcls : (X.env.scope.kind == .class || (X.env.scope.kind == .module && X.env.locals != X.env.globals)) = false := by rw [I.ok.kind]; rfl
  have hiσ : i < σ.length := by rw [I.len]; exact (List.getElem?_eq_some_iff.mp hi).1
  have cne := I.cne
  have tracked : ∀ {a : Addr} {h' : Heap}, (∃ o, s.heap.get? a = some o ∧ H a = none) → Heap.SameBut a s.heap h' → HOk X.prog X.w H h' := fun {a h'} ha hs b ob e => by
    obtain ⟨_, _, hfree⟩ := ha
    refine (I.hok b ob e).stay (fun c w' hc q => (hs.2 c ?_).trans q) (fun _ q => q) fun _ _ q => q
    rintro rfl
    rcases hc with rfl | hc
    · rw [hfree] at e; cases e
    · rw [hfree] at hc; cases hc
  rcases hx with hk | hk
  · refine wpAny_storeName_local hk hn (fun h' hn' hs => ?_) hcls
    obtain ⟨oL, _, _, hoL, _⟩ := id hn
    refine h _ ⟨I.ok, I.os, I.bare, ⟨fun b o e n hb hx => ?_, fun b o e n hb hx => ?_, I.base.free, fun b o e hx => ?_, I.base.tups, I.base.frzs, I.base.tbls⟩, ⟨_, hn', fun j y v' e1 e2 e3 => ?_⟩, fun y c e => ?_, I.free, I.freeC, fun p hp => ?_, tracked ⟨oL, hoL, I.free⟩ hs, by simpa using I.len⟩ ⟨_, hs, .inl rfl⟩
    · exact (hs.2 b (Nat.ne_of_lt (Nat.lt_of_lt_of_le (Heap.lt_size e) I.ok.above))).trans (I.base.keep b o e n hb hx)
    · obtain ⟨sl, e1⟩ := I.base.slot b o e n hb hx
      exact ⟨sl, (hs.2 b (Nat.ne_of_lt (Nat.lt_of_lt_of_le (Heap.lt_size e) I.ok.above))).trans e1⟩
    · obtain ⟨o', e1⟩ := I.base.there b o e hx
      exact ⟨o', (hs.2 b (Nat.ne_of_lt (Nat.lt_of_lt_of_le (Heap.lt_size e) I.ok.above))).trans e1⟩
    · by_cases hj : j = i
      · subst hj
        rw [hi] at e1; cases e1
        rw [List.getElem?_set_self hiσ] at e2
        cases e2
        exact ⟨u, r, .inl ⟨hk, by simp⟩⟩
      · rw [List.getElem?_set_ne (Ne.symm hj)] at e2
        obtain ⟨u', r', q⟩ := hl j y v' e1 e2 e3
        refine ⟨u', r', ?_⟩
        rcases q with ⟨k, e⟩ | ⟨k, c, e, z⟩
        · refine .inl ⟨k, ?_⟩
          have : y ≠ x := fun e => hj (nodup_ix hN e1 (e ▸ hi))
          simp [this, e]
        · exact .inr ⟨k, c, e, z.sameBut hs (cne y c e)⟩
    · obtain ⟨w', z⟩ := I.cell y c e
      exact ⟨w', z.sameBut hs (cne y c e)⟩
    · obtain ⟨e, n, ne, nf, d⟩ := I.pin p hp
      exact ⟨(hs.2 p.1 ne).trans e, n, ne, nf, d⟩
  · have hfn : X.fn x = true := by
      rcases hf with z | z
      · exact z
      · rw [z] at hk; cases hk
    obtain ⟨c, hc⟩ := I.ok.has x (.inl hk)
    obtain ⟨w', z⟩ := I.cell x c hc
    refine wpAny_storeName_cell I.ok.kind hk hc z (fun h' hc' hs => ?_)
    obtain ⟨oc, hoc, hocd⟩ := id z
    refine h { s with heap := h' } ⟨I.ok, I.os, I.bare, ⟨fun b o e n hb hx => ?_, fun b o e n hb hx => ?_, I.base.free, fun b o e hx => ?_, I.base.tups, I.base.frzs, I.base.tbls⟩, ⟨m, hn.sameBut hs (Ne.symm (cne x c hc)), fun j y v' e1 e2 e3 => ?_⟩, fun y c' e => ?_, I.free, I.freeC, fun p hp => ?_, tracked ⟨oc, hoc, I.freeC x c hc⟩ hs, by simpa using I.len⟩ ⟨c, hs, .inr hc⟩
    · exact (hs.2 b (Nat.ne_of_lt (Nat.lt_of_lt_of_le (Heap.lt_size e) (I.ok.cab x c hfn hc)))).trans (I.base.keep b o e n hb hx)
    · obtain ⟨sl, e1⟩ := I.base.slot b o e n hb hx
      exact ⟨sl, (hs.2 b (Nat.ne_of_lt (Nat.lt_of_lt_of_le (Heap.lt_size e) (I.ok.cab x c hfn hc)))).trans e1⟩
    · obtain ⟨o', e1⟩ := I.base.there b o e hx
      exact ⟨o', (hs.2 b (Nat.ne_of_lt (Nat.lt_of_lt_of_le (Heap.lt_size e) (I.ok.cab x c hfn hc)))).trans e1⟩
    · by_cases hj : j = i
      · subst hj
        rw [hi] at e1; cases e1
        rw [List.getElem?_set_self hiσ] at e2
        cases e2
        exact ⟨u, r, .inr ⟨.inl hk, c, hc, hc'⟩⟩
      · rw [List.getElem?_set_ne (Ne.symm hj)] at e2
        obtain ⟨u', r', q⟩ := hl j y v' e1 e2 e3
        refine ⟨u', r', ?_⟩
        rcases q with q | ⟨k, c', e, z'⟩
        · exact .inl q
        · refine .inr ⟨k, c', e, z'.sameBut hs ?_⟩
          rintro rfl
          exact hj (nodup_ix hN e1 (I.ok.inj _ _ _ e hc ▸ hi))
    · by_cases hcc : c' = c
      · subst hcc; exact ⟨_, hc'⟩
      · obtain ⟨w2, z2⟩ := I.cell y c' e
        exact ⟨w2, z2.sameBut hs hcc⟩
    · obtain ⟨e, n, ne, nf, d⟩ := I.pin p hp
      refine ⟨(hs.2 p.1 ?_).trans e, n, ne, nf, d⟩
      intro q
      rw [q, hoc] at e
      have q' : oc = p.2 := Option.some.inj e
      exact d w' (by rw [← q']; exact hocd)
theorem store_ok {M : Model} {A : Around} {E : Value → Shared → Prop} {i : Nat} {x : Str} {v : V} {u : Value} {Q : Unit → Shared → Prop} (I : Inv X pins σ H s) (hN : X.N.Nodup) (hi : X.N[i]? = some x) (hx : Loc X.env.scope x) (r : RelV v u)
    (h : ∀ s', Inv X pins (σ.set i (some v)) H s' → Q () s') (hf : X.fn x = true ∨ X.env.scope.names.lookup x = some .local := by first | exact .inl rfl | exact .inr rfl | assumption) : wpAny M A (storeName X.env x u) Q E s :=
  store_ok2 I hN hi hx r (fun s' I' _ => h s' I') hf
end

/-! ### the judgements -/
/-- an exception: its class, its own dict's address (where it has one), the abstract heap behind it -/
abbrev XK := Value → Option Addr → Hp → Prop
abbrev St := List (Option V)
abbrev VK := V → Hp → Prop
/-- an expression's reading; a test's; an argument list's -/
abbrev TE := St → Hp → VK → Prop
abbrev TT := St → Hp → (Bool → Hp → Prop) → Prop
abbrev TA := St → Hp → (List V → Hp → Prop) → Prop
/-- what is wanted behind a statement -/
structure Ends where
  nx : St → Hp → Prop
  rt : VK
  bk : St → Hp → Prop := fun _ _ => False
  ct : St → Hp → Prop := fun _ _ => False
abbrev TS := Ends → St → Hp → Prop

def EP (X : Cx) (pins : List (Addr × Obj)) (σ : St) (Q : VK) (u : Value) (s' : Shared) : Prop := ∃ v H', Inv X pins σ H' s' ∧ RelV v u ∧ Q v H'
def TP (X : Cx) (pins : List (Addr × Obj)) (σ : St) (Q : Bool → Hp → Prop) (b : Bool) (s' : Shared) : Prop := ∃ H', Inv X pins σ H' s' ∧ Q b H'
def AP (X : Cx) (pins : List (Addr × Obj)) (σ : St) (Q : List V → Hp → Prop) (us : List Value) (s' : Shared) : Prop := ∃ vs H', Inv X pins σ H' s' ∧ Vals vs us ∧ Q vs H'
def SP (X : Cx) (pins : List (Addr × Obj)) (D : Ends) (f : Flow) (s' : Shared) : Prop :=
  match f with
  | .next => ∃ σ' H', Inv X pins σ' H' s' ∧ D.nx σ' H'
  | .brk => ∃ σ' H', Inv X pins σ' H' s' ∧ D.bk σ' H'
  | .cont => ∃ σ' H', Inv X pins σ' H' s' ∧ D.ct σ' H'
  | .ret u => ∃ v σ' H', Inv X pins σ' H' s' ∧ RelV v u ∧ D.rt v H'

def PE (X : Cx) (e : Expr) (t : TE) : Prop :=
  ∀ (pins : List (Addr × Obj)) (s : Shared) (σ : St) (H : Hp) (Q : VK), Inv X pins σ H s → t σ H Q → wpAny (model X.prog X.w) X.A (eval e X.env) (EP X pins σ Q) X.xe s
def PT (X : Cx) (e : Expr) (t : TT) : Prop :=
  ∀ (pins : List (Addr × Obj)) (s : Shared) (σ : St) (H : Hp) (Q : Bool → Hp → Prop), Inv X pins σ H s → t σ H Q → wpAny (model X.prog X.w) X.A (isTrue e X.env (eval e X.env)) (TP X pins σ Q) X.xe s
/-- a test whatever its 'whole' is (and, or) -/
def PW (X : Cx) (e : Expr) (t : TT) : Prop :=
  ∀ (whole : Sem Value) (pins : List (Addr × Obj)) (s : Shared) (σ : St) (H : Hp) (Q : Bool → Hp → Prop), Inv X pins σ H s → t σ H Q → wpAny (model X.prog X.w) X.A (isTrue e X.env whole) (TP X pins σ Q) X.xe s
theorem PW.pt {X : Cx} {e : Expr} {t : TT} (h : PW X e t) : PT X e t := h _
/-- an argument list (no star), from the left -/
def PA (X : Cx) (es : List Expr) (t : TA) : Prop :=
  ∀ (pos : Pos) (pins : List (Addr × Obj)) (s : Shared) (σ : St) (H : Hp) (Q : List V → Hp → Prop), Inv X pins σ H s → t σ H Q → wpAny (model X.prog X.w) X.A (spliced (backTo pos (starEach es X.env))) (AP X pins σ Q) X.xe s
def PS (X : Cx) (st : Stmt) (t : TS) : Prop :=
  ∀ (pins : List (Addr × Obj)) (s : Shared) (σ : St) (H : Hp) (D : Ends), Inv X pins σ H s → t D σ H → wpAny (model X.prog X.w) X.A (exec st X.env) (SP X pins D) X.xe s
def PSs (X : Cx) (st : List Stmt) (t : TS) : Prop :=
  ∀ (pins : List (Addr × Obj)) (s : Shared) (σ : St) (H : Hp) (D : Ends), Inv X pins σ H s → t D σ H → wpAny (model X.prog X.w) X.A (execs st X.env) (SP X pins D) X.xe s
/-- weaken the end -/
theorem thn {α : Type} {t : Sem α} {Q Q' : α → Shared → Prop} {M : Model} {A : Around} {E : Value → Shared → Prop} {s : Shared} (h : wpAny M A t Q E s) (hQ : ∀ a s, Q a s → Q' a s) : wpAny M A t Q' E s := wpAny_mono h hQ fun _ _ x => x
end L2

namespace L2
open PySem PySem.Spec PyProof.Rows
section
variable {X : Cx}


/-! ### names and constants -/
def tVar (i : Nat) : TE := fun σ H Q => ∃ v, σ[i]? = some (some v) ∧ Q v H
def tC (v : V) : TE := fun _ H Q => Q v H
theorem pe_var {i : Nat} {x : Str} {pos : Pos} (hN : X.N[i]? = some x) (hv : Vis X.env.scope x) (hd : (x == ("__debug__" : Str)) = false := by decide) (hcd : (x == ("__classdict__" : Str)) = false := by decide) : PE X (.Name x pos) (tVar i) := by
  intro pins s σ H Q I h
  obtain ⟨v, e, h⟩ := h
  obtain ⟨m, hn, hl⟩ := I.loc
  obtain ⟨u, r, l⟩ := hl i x v hN e hv
  have fin : EP X pins σ Q u s := ⟨v, H, I, r, h⟩
  rcases l with ⟨hk, hm⟩ | ⟨hk, c, hc, hcell⟩
  · exact wpAny_Name (wpAny_loadName_local I.ok.kind hk hn hm fin) hd
  · rcases hk with hk | hk
    · exact wpAny_Name (wpAny_loadName_cell I.ok.kind hk hc hcell fin) hd
    · exact wpAny_Name (wpAny_loadName_free I.ok.kind hk hc hcell fin hcd) hd
theorem pe_int {i j pos} : PE X (.Constant (.int i) j pos) (tC (.int i)) := fun _ _ _ H _ I h => wpAny_Constant_int ⟨.int i, H, I.tok _, ⟨_, rfl⟩, h⟩
theorem pe_bl {b j pos} : PE X (.Constant (.bool b) j pos) (tC (.bl b)) := fun _ _ _ H _ I h => Constant_bool ⟨.bl b, H, I, rfl, h⟩

/-- a global name of the def -/
def Gl (X : Cx) (x : Str) : Prop := X.env.kindOf x = some .globalImplicit
theorem ld_glob {E : Value → Shared → Prop} {pins : List (Addr × Obj)} {s : Shared} {σ : St} {H : Hp} {x : Str} {u : Value} {pos : Pos} {Q : Value → Shared → Prop} (I : Inv X pins σ H s) (hg : Gl X x) (hm : X.mg x = some u) (h : Q u s)
    (hd : (x == ("__debug__" : Str)) = false := by decide) : wpAny (model X.prog X.w) X.A (eval (.Name x pos) X.env) Q E s :=
  Calls.Name_function_global I.ok.kind hg (Calls.loadGlobal_global (by rw [I.ok.glob]; exact I.mod.glob.keeps I.bk) hm h) hd
theorem ld_blt {E : Value → Shared → Prop} {pins : List (Addr × Obj)} {s : Shared} {σ : St} {H : Hp} {x : Str} {u : Value} {pos : Pos} {Q : Value → Shared → Prop} (I : Inv X pins σ H s) (hg : Gl X x) (hm : X.mg x = none) (hv : bootBuiltins x = some u) (h : Q u s)
    (hn : x ≠ "__name__" := by decide) (hd : (x == ("__debug__" : Str)) = false := by decide) : wpAny (model X.prog X.w) X.A (eval (.Name x pos) X.env) Q E s := by
  obtain ⟨mb, h1, h2⟩ := I.mod.blt
  exact Calls.Name_function_global I.ok.kind hg (Calls.loadGlobal_builtin (by rw [I.ok.glob]; exact I.mod.glob.keeps I.bk) hm (by rw [I.ok.blt]; exact h1.keeps I.bk) ((h2 x hn).trans hv) h) hd
/-- a module's constant, a class, a function, as a value -/
theorem pe_glob {x : Str} {v : V} {u : Value} {pos : Pos} (hg : Gl X x) (hm : X.mg x = some u) (r : RelV v u) (hd : (x == ("__debug__" : Str)) = false := by decide) : PE X (.Name x pos) (tC v) :=
  fun _ _ _ H _ I h => ld_glob I hg hm ⟨v, H, I, r, h⟩ hd
theorem pe_bltn {x : Str} {v : V} {u : Value} {pos : Pos} (hg : Gl X x) (hm : X.mg x = none) (hv : bootBuiltins x = some u) (r : RelV v u) (hn : x ≠ "__name__" := by decide) (hd : (x == ("__debug__" : Str)) = false := by decide) : PE X (.Name x pos) (tC v) :=
  fun _ _ _ H _ I h => ld_blt I hg hm hv ⟨v, H, I, r, h⟩ hn hd

/-! ### arithmetic -/
variable {a b : Expr} {ta tb : TE} {pos : Pos}

/-! ### comparisons -/
/-- a comparison as a value, as a test -/
def tB (t : TE) : TT := fun σ H Q => t σ H fun x H1 => ∃ c, x = .bl c ∧ Q c H1
/-- an expression whose value is a bool, as a test -/
theorem pt_val {e : Expr} {t : TE} (h : PE X e t) (he : ∀ whole, isTrue e X.env whole = (do let v ← whole; standAt e.pos; holding [v] (truthy v)) := by intro _; rfl) : PT X e (tB t) := by
  intro pins s σ H Q I hw
  refine isTrue_plain (thn (h pins s σ H _ I hw) fun v s1 ⟨x, H1, I1, r1, q1⟩ => ?_) (he _)
  obtain ⟨d, rfl, q⟩ := q1
  cases r1
  exact wpAny_truthy_bool ⟨H1, I1, q⟩

/-! ### and, or, not -/
variable {tA tB' : TT} {rest : List Expr}
def tOr (t u : TT) : TT := fun σ H Q => t σ H fun c H1 => if c = true then Q true H1 else u σ H1 Q
def tNot (t : TT) : TT := fun σ H Q => t σ H fun c H1 => Q (!c) H1
theorem pw_or1 (ha : PT X a tA) : PW X (.BoolOp .Or [a] pos) tA := by
  intro wh pins s σ H Q I h
  refine isTrue_or (thn (ha pins s σ H Q I h) fun c s1 e => ?_)
  cases c with
  | false => exact isTrue_or_nil e
  | true => exact e
theorem pw_or (ha : PT X a tA) (hb : PW X (.BoolOp .Or (b :: rest) pos) tB') : PW X (.BoolOp .Or (a :: b :: rest) pos) (tOr tA tB') := by
  intro wh pins s σ H Q I h
  refine isTrue_or (thn (ha pins s σ H _ I h) fun c s1 ⟨H1, I1, q1⟩ => ?_)
  cases c with
  | true => exact ⟨H1, I1, q1⟩
  | false => exact hb wh pins s1 σ H1 Q I1 q1
theorem pt_not (ha : PT X a tA) : PT X (.UnaryOp .Not a pos) (tNot tA) := by
  intro pins s σ H Q I h
  exact isTrue_not (ha pins s σ H (fun c H1 => Q (!c) H1) I h)
end
end L2

namespace L2
open PySem PySem.Spec PyProof.Rows

/-! ### a list, a tuple that is read: tracked, frozen, or an object of the module -/
def SqL (K : PySem.W.Frag) (H : Hp) (a : Addr) (xs : List V) : Prop :=
  Rd H a (.lst xs) ∨
    ∃ (o : Obj) (its : Array Value) (n : Nat), K.lookup a = some o ∧ o.cls = .type "list" ∧ o.dict = none ∧ o.data = .seq its n ∧ its.size ≤ sizeLine ∧ Vals xs its.toList
def SqT (K : PySem.W.Frag) (H : Hp) (a : Addr) (xs : List V) : Prop :=
  Rd H a (.tup xs) ∨
    ∃ (o : Obj) (its : Array Value) (n : Nat), K.lookup a = some o ∧ o.cls = .type "tuple" ∧ o.data = .seq its n ∧ its.size ≤ sizeLine ∧ Vals xs its.toList
def absV : Value → Option V
  | .none => some .non
  | .bool b => some (.bl b)
  | .int i _ => some (.int i)
  | .str x _ => some (.str x)
  | .bytes b _ => some (.byt b)
  | .float b _ => some (.flt b)
  | .ref a => some (.ref a)
  | .type n => some (.ty n)
  | _ => none
theorem RelV.abs {x : V} {u : Value} (r : RelV x u) : absV u = some x := by
  cases x with
  | non => cases r; rfl
  | bl _ => cases r; rfl
  | int _ => obtain ⟨t, rfl⟩ := r; rfl
  | str _ => obtain ⟨t, rfl⟩ := r; rfl
  | byt _ => obtain ⟨t, rfl⟩ := r; rfl
  | flt _ => obtain ⟨t, rfl⟩ := r; rfl
  | ref _ => cases r; rfl
  | ty _ => cases r; rfl
theorem RelV.inj {x y : V} {u : Value} (r : RelV x u) (q : RelV y u) : x = y := Option.some.inj (r.abs.symm.trans q.abs)
theorem Vals.inj : ∀ {xs ys : List V} {us : List Value}, Vals xs us → Vals ys us → xs = ys
  | _, _, _, .nil, .nil => rfl
  | _, _, _, .cons r t, .cons r' t' => by rw [r.inj r', Vals.inj t t']
section
variable {X : Cx} {pins : List (Addr × Obj)} {σ : St} {H : Hp} {s : Shared} {a : Addr} {xs ys : List V}
theorem SqL.of {K : PySem.W.Frag} (h : H a = some (.lst xs)) : SqL K H a xs := .inl (.inl h)
theorem SqT.of {K : PySem.W.Frag} (h : H a = some (.tup xs)) : SqT K H a xs := .inl (.inl h)
theorem Inv.list (I : Inv X pins σ H s) (h : SqL X.K H a xs) : ∃ its : List Value, Vals xs its ∧ PlainL s.heap a its.toArray ∧ xs.length ≤ sizeLine := by
  rcases h with h | ⟨o, its, n, hk, hc, hd, hs, hz, r⟩
  · obtain ⟨z, its, n, r, e⟩ := h.ok I.hok
    exact ⟨its, r, ⟨_, n, e, rfl, rfl, rfl⟩, z⟩
  · refine ⟨its.toList, r, ⟨o, n, I.kIn a o hk, hc, hd, by simpa using hs⟩, ?_⟩
    have e := r.length
    simp only [Array.length_toList] at e
    omega
theorem Inv.tuple (I : Inv X pins σ H s) (h : SqT X.K H a xs) : ∃ its : List Value, Vals xs its ∧ IsTup s.heap a its.toArray ∧ xs.length ≤ sizeLine := by
  rcases h with h | ⟨o, its, n, hk, hc, hs, hz, r⟩
  · obtain ⟨z, its, r, p⟩ := h.ok I.hok
    exact ⟨its, r, p, z⟩
  · refine ⟨its.toList, r, ⟨o, I.kIn a o hk, hc, n, by simpa using hs⟩, ?_⟩
    have e := r.length
    simp only [Array.length_toList] at e
    omega
theorem Inv.list_inj (I : Inv X pins σ H s) (h : SqL X.K H a xs) (h' : SqL X.K H a ys) : xs = ys := by
  obtain ⟨its, r, ⟨o, n, e, _, _, d⟩, _⟩ := I.list h
  obtain ⟨its', r', ⟨o', n', e', _, _, d'⟩, _⟩ := I.list h'
  rw [e] at e'; cases e'
  rw [d] at d'
  injection d' with d1 _
  have : its = its' := by simpa using congrArg Array.toList d1
  subst this
  exact r.inj r'
theorem Inv.tuple_inj (I : Inv X pins σ H s) (h : SqT X.K H a xs) (h' : SqT X.K H a ys) : xs = ys := by
  obtain ⟨its, r, ⟨o, e, _, n, d⟩, _⟩ := I.tuple h
  obtain ⟨its', r', ⟨o', e', _, n', d'⟩, _⟩ := I.tuple h'
  rw [e] at e'; cases e'
  rw [d] at d'
  injection d' with d1 _
  have : its = its' := by simpa using congrArg Array.toList d1
  subst this
  exact r.inj r'
end

/-! ### another wish about exceptions -/
abbrev Cx.wish (X : Cx) (E : Value → Shared → Prop) : Cx := { X with xe := E }
/-- no exception leaves -/
abbrev Cx.nox (X : Cx) : Cx := X.wish fun _ _ => False
theorem Cx.Ok.wish {X : Cx} (ok : X.Ok) (E : Value → Shared → Prop) : (X.wish E).Ok :=
  ⟨ok.mod, ok.kind, ok.glob, ok.blt, ok.above, ok.inj, ok.has, ok.cab, ok.hd, ok.frames, ok.stk, ok.exf, ok.bs, ok.bsz, ok.noex, ok.exfs, ok.funs, ok.frf⟩
theorem Cx.Ok.unwish {X : Cx} {E : Value → Shared → Prop} (ok : (X.wish E).Ok) : X.Ok :=
  ⟨ok.mod, ok.kind, ok.glob, ok.blt, ok.above, ok.inj, ok.has, ok.cab, ok.hd, ok.frames, ok.stk, ok.exf, ok.bs, ok.bsz, ok.noex, ok.exfs, ok.funs, ok.frf⟩
section
variable {X : Cx} {pins : List (Addr × Obj)} {σ : St} {H : Hp} {s : Shared} {E : Value → Shared → Prop}
theorem Inv.wish (I : Inv X pins σ H s) (E : Value → Shared → Prop) : Inv (X.wish E) pins σ H s := ⟨I.ok.wish E, I.os, I.bare, I.base, I.loc, I.cell, I.free, I.freeC, I.pin, I.hok, I.len⟩
theorem Inv.unwish (I : Inv (X.wish E) pins σ H s) : Inv X pins σ H s := ⟨I.ok.unwish, I.os, I.bare, I.base, I.loc, I.cell, I.free, I.freeC, I.pin, I.hok, I.len⟩
theorem SP.unwish {D : Ends} {f : Flow} {s' : Shared} (h : SP (X.wish E) pins D f s') : SP X pins D f s' := by
  cases f with
  | next => obtain ⟨σ', H', I, q⟩ := h; exact ⟨σ', H', I.unwish, q⟩
  | brk => obtain ⟨σ', H', I, q⟩ := h; exact ⟨σ', H', I.unwish, q⟩
  | cont => obtain ⟨σ', H', I, q⟩ := h; exact ⟨σ', H', I.unwish, q⟩
  | ret u => obtain ⟨v, σ', H', I, r, q⟩ := h; exact ⟨v, σ', H', I.unwish, r, q⟩
theorem PE.nox {e : Expr} {t : TE} (h : PE X.nox e t) : PE X e t := fun pins s σ H Q I hw =>
  wpAny_mono (h pins s σ H Q (I.wish _) hw) (fun _ _ ⟨v, H', I', r, q⟩ => ⟨v, H', I'.unwish, r, q⟩) fun _ _ z => False.elim z
theorem PT.nox {e : Expr} {t : TT} (h : PT X.nox e t) : PT X e t := fun pins s σ H Q I hw =>
  wpAny_mono (h pins s σ H Q (I.wish _) hw) (fun _ _ ⟨H', I', q⟩ => ⟨H', I'.unwish, q⟩) fun _ _ z => False.elim z
theorem PSs.nox {st : List Stmt} {t : TS} (h : PSs X.nox st t) : PSs X st t := fun pins s σ H D I hw =>
  wpAny_mono (h pins s σ H D (I.wish _) hw) (fun _ _ q => q.unwish) fun _ _ z => False.elim z
end

/-! ### blocks and small statements -/
section
variable {X : Cx} {st : Stmt} {rest : List Stmt} {t u : TS} {e : Expr} {te : TE} {pos : Pos}
def tNext : TS := fun D σ H => D.nx σ H
def tSeq (t u : TS) : TS := fun D σ H => t { D with nx := u D } σ H
theorem pss_nil : PSs X [] tNext := fun _ _ σ H _ I h => wpAny_execs_nil ⟨σ, H, I, h⟩
theorem pss_cons (h1 : PS X st t) (h2 : PSs X rest u) : PSs X (st :: rest) (tSeq t u) := by
  intro pins s σ H D I h
  refine wpAny_execs_cons (thn (h1 pins s σ H { D with nx := u D } I h) fun f s1 q => ?_)
  cases f with
  | next =>
    obtain ⟨σ', H', I', q⟩ := q
    exact h2 pins s1 σ' H' D I' q
  | ret v => exact q
  | brk => exact q
  | cont => exact q
theorem pss_one (h1 : PS X st t) : PSs X [st] t := by
  intro pins s σ H D I h
  refine wpAny_execs_cons (thn (h1 pins s σ H D I h) fun f s1 q => ?_)
  cases f with
  | next => exact wpAny_execs_nil q
  | ret v => exact q
  | brk => exact q
  | cont => exact q
/-- in a def's body nothing is shown -/
theorem Inv.quiet {pins : List (Addr × Obj)} {σ : St} {H : Hp} {s : Shared} (I : Inv X pins σ H s) : interactive X.env = false := by simp [interactive, I.ok.kind]
def tRet (te : TE) : TS := fun D σ H => te σ H D.rt
theorem ps_ret (he : PE X e te) : PS X (.Return (some e) pos) (tRet te) := by
  intro pins s σ H D I h
  exact wpAny_Return_some (thn (he pins s σ H _ I h) fun v s1 ⟨x, H1, I1, r1, q1⟩ => ⟨x, σ, H1, I1, r1, q1⟩)
def tIfS (c : TT) (t u : TS) : TS := fun D σ H => c σ H fun b H1 => if b = true then t D σ H1 else u D σ H1
theorem ps_if {c : Expr} {a b : List Stmt} {tc : TT} (hc : PT X c tc) (ha : PSs X a t) (hb : PSs X b u) : PS X (.If c a b pos) (tIfS tc t u) := by
  intro pins s σ H D I h
  refine wpAny_If (thn (hc pins s σ H _ I h) fun d s1 ⟨H1, I1, q1⟩ => ?_)
  cases d with
  | true => exact ha pins s1 σ H1 D I1 q1
  | false => exact hb pins s1 σ H1 D I1 q1
end

/-! ### targets -/
abbrev TG := V → St → Hp → (St → Hp → Prop) → Prop
abbrev TGs := List V → St → Hp → (St → Hp → Prop) → Prop
def PG (X : Cx) (target : Expr) (t : TG) : Prop :=
  ∀ (pins : List (Addr × Obj)) (s : Shared) (σ : St) (H : Hp) (v : V) (u : Value) (Q : St → Hp → Prop), Inv X pins σ H s → RelV v u → t v σ H Q →
    wpAny (model X.prog X.w) X.A (assign target X.env u) (fun _ s' => ∃ σ' H', Inv X pins σ' H' s' ∧ Q σ' H') X.xe s
/-- several targets, one after another -/
def PGs (X : Cx) (ts : List Expr) (t : TGs) : Prop :=
  ∀ (pins : List (Addr × Obj)) (s : Shared) (σ : St) (H : Hp) (vs : List V) (us : List Value) (Q : St → Hp → Prop), Inv X pins σ H s → Vals vs us → t vs σ H Q →
    wpAny (model X.prog X.w) X.A (assignInOrder ((assignEach ts X.env).map (·.2)) us) (fun _ s' => ∃ σ' H', Inv X pins σ' H' s' ∧ Q σ' H') X.xe s
/-- o[i] = v, by values -/
abbrev TSet := V → V → V → Hp → (Hp → Prop) → Prop
def PSet (X : Cx) (t : TSet) : Prop :=
  ∀ (pins : List (Addr × Obj)) (s : Shared) (σ : St) (H : Hp) (o i v : V) (ov iv u : Value) (Q : Hp → Prop), Inv X pins σ H s → RelV o ov → RelV i iv → RelV v u → t o i v H Q →
    wpAny (model X.prog X.w) X.A (setItem ov iv u) (fun _ s' => ∃ H', Inv X pins σ H' s' ∧ Q H') X.xe s
/-- a op= b, by values -/
abbrev TIp := V → V → Hp → VK → Prop
def PIp (X : Cx) (op : Operator) (t : TIp) : Prop :=
  ∀ (pins : List (Addr × Obj)) (s : Shared) (σ : St) (H : Hp) (x y : V) (v u : Value) (Q : VK), Inv X pins σ H s → RelV x v → RelV y u → t x y H Q →
    wpAny (model X.prog X.w) X.A (inplaceOp op v u) (EP X pins σ Q) X.xe s
section
variable {X : Cx} {pos : Pos}
def gName (i : Nat) : TG := fun v σ H Q => Q (σ.set i (some v)) H
theorem pg_name {i : Nat} {x : Str} (hN : X.N.Nodup) (hi : X.N[i]? = some x) (hx : Loc X.env.scope x) (hf : X.fn x = true ∨ X.env.scope.names.lookup x = some .local := by first | exact .inl rfl | exact .inr rfl | assumption) : PG X (.Name x pos) (gName i) := by
  intro pins s σ H v u Q I r h
  exact wpAny_assign_Name (store_ok I hN hi hx r (fun s' I' => ⟨_, H, I', h⟩) hf)
/-- target = value -/
def tAsg (te : TE) (g : TG) : TS := fun D σ H => te σ H fun x H1 => g x σ H1 D.nx
/-- name = value -/
theorem ps_set {i : Nat} {x : Str} {e : Expr} {te : TE} {pos' : Pos} (hN : X.N.Nodup) (hi : X.N[i]? = some x) (hx : Loc X.env.scope x) (he : PE X e te) (hs : swapsWith e (some (.Name x pos')) pos.line X.env = pure false := by rfl) (hf : X.fn x = true ∨ X.env.scope.names.lookup x = some .local := by first | exact .inl rfl | exact .inr rfl | assumption) :
    PS X (.Assign [.Name x pos'] e pos) (tAsg te (gName i)) := by
  intro pins s σ H D I h
  refine wpAny_Assign_Name (thn (he pins s σ H _ I h) fun v s1 ⟨y, H1, I1, r1, q1⟩ => ?_) hs
  exact store_ok I1 hN hi hx r1 (fun s2 I2 => ⟨_, H1, I2, q1⟩) hf
/-- o[i], by values -/
def PGet (X : Cx) (t : V → V → Hp → VK → Prop) : Prop :=
  ∀ (pins : List (Addr × Obj)) (s : Shared) (σ : St) (H : Hp) (o i : V) (ov iv : Value) (Q : VK), Inv X pins σ H s → RelV o ov → RelV i iv → t o i H Q →
    wpAny (model X.prog X.w) X.A (getItem ov iv) (EP X pins σ Q) X.xe s
end

/-! ### while -/
section
variable {X : Cx} {pos : Pos}
end

/-! ### what a loop or a comprehension walks -/
/-- at turn i: it yields x (the heap may grow), or it stops -/
structure It where
  go : Nat → Hp → Prop
  yld : Nat → Hp → V → Hp → Prop
  stop : Nat → Hp → Prop
/-- the iterator's own objects may turn: they are not the frame's, not pinned, younger than the entry (or a comprehension's own) -/
def FpOk (X : Cx) (pins : List (Addr × Obj)) (H : Hp) (b : Addr) : Prop :=
  H b = none ∧ b ≠ X.env.locals ∧ b ∉ X.fs ∧ (b ∈ X.ex ∨ X.s₀.heap.objs.size ≤ b) ∧ (∀ x c, X.env.cells.lookup x = some c → c ≠ b) ∧ ∀ p ∈ X.pn ++ pins, p.1 ≠ b
theorem Inv.fpOk {X : Cx} {pins : List (Addr × Obj)} {σ : St} {H H' : Hp} {s : Shared} {b : Addr} (I : Inv X pins σ H s) (hb : s.heap.objs.size ≤ b) (hn : H' b = none) : FpOk X pins H' b := by
  refine ⟨hn, Nat.ne_of_gt (Nat.lt_of_lt_of_le I.lt hb), I.nofs hb, .inr (Nat.le_trans I.sz hb), fun x c e z => ?_, fun p hp z => ?_⟩
  · obtain ⟨v, q⟩ := I.cell x c e
    exact absurd (Nat.lt_of_lt_of_le q.lt (by rw [z]; exact hb)) (Nat.lt_irrefl _)
  · exact absurd (Nat.lt_of_lt_of_le (Heap.lt_size (I.pin p hp).1) (by rw [z]; exact hb)) (Nat.lt_irrefl _)
structure Turn (P : Program) (w : World) (K : PySem.W.Frag) (tg : Expr) (J : It) (fp : List Addr) (it : Addr) (tn : Nat → Heap → Prop) : Prop where
  mem : it ∈ fp
  obj : ∀ i h, tn i h → ∀ b ∈ fp, ∃ o, h.get? b = some o ∧ ∀ v, o.data ≠ .cell v
  keep : ∀ i h h', tn i h → (∀ b ∈ fp, ∀ o, h.get? b = some o → h'.get? b = some o) → tn i h'
  item : ∀ (X : Cx), X.prog = P → X.w = w → X.K = K → X.calm = true → ∀ (i : Nat) (pins : List (Addr × Obj)) (s : Shared) (σ : St) (H : Hp) (E : Value → Shared → Prop), Inv X pins σ H s → (∀ b ∈ fp, FpOk X pins H b) → tn i s.heap → J.go i H →
    wpAny (model P w) X.A (pyNext (.ref it)) (fun r s1 => ∃ u, r = some u ∧
      wpAny (model P w) X.A (letOwnedTupleGo tg (.ref it) u) (fun _ s2 => ∃ x H', Inv X pins σ H' s2 ∧ RelV x u ∧ J.yld i H x H' ∧ tn (i + 1) s2.heap ∧ ∀ b ∈ fp, H' b = none) E s1) E s
  done : ∀ (X : Cx), X.prog = P → X.w = w → X.K = K → X.calm = true → ∀ (i : Nat) (pins : List (Addr × Obj)) (s : Shared) (σ : St) (H : Hp) (E : Value → Shared → Prop), Inv X pins σ H s → (∀ b ∈ fp, FpOk X pins H b) → tn i s.heap → J.stop i H →
    wpAny (model P w) X.A (pyNext (.ref it)) (fun r s1 => r = none ∧ Inv X pins σ H s1) E s
  self : ∀ (A : Around) (i : Nat) (s : Shared) (Q : Value → Shared → Prop) (E : Value → Shared → Prop), tn i s.heap → Q (.ref it) s → wpAny (model P w) A (pyIter (.ref it)) Q E s
abbrev TI := St → Hp → (It → Hp → Prop) → Prop
/-- an iterator has come -/
def PIE (X : Cx) (pins : List (Addr × Obj)) (σ : St) (tg : Expr) (R : It → Hp → Prop) (itv : Value) (s2 : Shared) : Prop :=
  ∃ (it : Addr) (fp : List Addr) (tn : Nat → Heap → Prop) (J : It) (H' : Hp), itv = .ref it ∧ Inv X pins σ H' s2 ∧ Turn X.prog X.w X.K tg J fp it tn ∧ tn 0 s2.heap ∧ (∀ b ∈ fp, FpOk X pins H' b) ∧ R J H'
def PI (X : Cx) (tg iter : Expr) (wi : TI) : Prop :=
  ∀ (pins : List (Addr × Obj)) (s : Shared) (σ : St) (H : Hp) (R : It → Hp → Prop), Inv X pins σ H s → wi σ H R →
    wpAny (model X.prog X.w) X.A (eval iter X.env) (fun v s1 => wpAny (model X.prog X.w) X.A (pyIter v) (PIE X pins σ tg R) X.xe s1) X.xe s

/-- the step ahead of the store is nothing for an iterator that keeps no tuple -/
theorem go_of {M : Model} {A : Around} {E : Value → Shared → Prop} {s : Shared} {tg : Expr} {it : Addr} {u : Value} {o : Obj} {n : String} {vs : Array Value} {Q : Unit → Shared → Prop} (ho : s.heap.get? it = some o) (hc : o.cls = .type n) (hd : o.data = .fields vs)
    (hn : ["enumerate", "zip", "dict_itemiterator", "dict_reverseitemiterator", "odict_iterator", "itertools.zip_longest", "itertools.pairwise"].contains n = false) (hQ : Q () s) : wpAny M A (letOwnedTupleGo tg (.ref it) u) Q E s := by
  unfold letOwnedTupleGo
  cases tg <;> first
    | exact wpAny_pure hQ
    | (cases u <;> first
        | exact wpAny_pure hQ
        | (refine wpAny_bind (wpAny_load ho ?_)
           rw [hc, hd]
           show wpAny M A (if (["enumerate", "zip", "dict_itemiterator", "dict_reverseitemiterator", "odict_iterator", "itertools.zip_longest", "itertools.pairwise"].contains n && vs[0]? == some (rawInt _)) = true then _ else _) Q E s
           rw [if_neg (by intro h; rw [hn, Bool.false_and] at h; cases h)]
           exact wpAny_pure hQ))

/-- the list at a, as it stands at each turn (a loop may append to it) -/
def Itl (K : PySem.W.Frag) (a : Addr) : It :=
  ⟨fun i H => ∃ xs x, SqL K H a xs ∧ xs[i]? = some x, fun i H x H' => H' = H ∧ ∀ xs, SqL K H a xs → xs[i]? = some x, fun i H => ∃ xs, SqL K H a xs ∧ xs.length ≤ i⟩
def Itt (K : PySem.W.Frag) (a : Addr) : It :=
  ⟨fun i H => ∃ xs x, SqT K H a xs ∧ xs[i]? = some x, fun i H x H' => H' = H ∧ ∀ xs, SqT K H a xs → xs[i]? = some x, fun i H => ∃ xs, SqT K H a xs ∧ xs.length ≤ i⟩
/-- lo, lo + 1, .. (n of them) -/
def Itr (lo : Int) (n : Nat) : It := ⟨fun i _ => i < n, fun i H x H' => H' = H ∧ x = .int (lo + i), fun i _ => n ≤ i⟩
theorem turn_list {P : Program} {w : World} {K : PySem.W.Frag} {tg : Expr} (a it : Addr) : Turn P w K tg (Itl K a) [it] it (fun i h => h.IsListIter it a i) where
  mem := by simp
  obj := fun i h st b hb => by
    have e : b = it := by simpa using hb
    subst e
    obtain ⟨o, e, c, d⟩ := st
    exact ⟨o, e, fun v z => by rw [d] at z; cases z⟩
  keep := fun i h h' st k => st.at fun o e => k it (by simp) o e
  item := by
    intro X hP hw hK hc i pins s σ H E I hf st hg
    subst hP hw hK
    obtain ⟨xs, x, hq, hx⟩ := hg
    obtain ⟨its, rv, p, hz⟩ := I.list hq
    obtain ⟨u, hu, ru⟩ := rv.get hx
    obtain ⟨f0, f1, f2, f3, f4, f5⟩ := hf it (by simp)
    refine wpAny_pyNext_list_item st p.isList (x := u) (by simpa using hu) fun h' st' sb => ?_
    have I1 : Inv X pins σ H { s with heap := h' } := I.turned (t' := s.toks) (fun b o hb e => (sb.2 b hb).trans e) f0 f1 f3 f4 f5
    obtain ⟨o, e, c, d⟩ := id st'
    exact ⟨u, rfl, go_of (s := { s with heap := h' }) e c d (by decide) ⟨x, H, I1, ru, ⟨rfl, fun ys hy => by rw [I.list_inj hy hq]; exact hx⟩, st', fun b hb => (hf b hb).1⟩⟩
  done := by
    intro X hP hw hK hc i pins s σ H E I hf st hg
    subst hP hw hK
    obtain ⟨xs, hq, hx⟩ := hg
    obtain ⟨its, rv, p, hz⟩ := I.list hq
    obtain ⟨f0, f1, f2, f3, f4, f5⟩ := hf it (by simp)
    have hl := rv.length
    exact wpAny_pyNext_list_end (I.ok.hd hc) st p.isList (by simp; omega) fun h' eb => ⟨rfl, I.turned (t' := s.toks) (fun b o hb e => eb b o hb e) f0 f1 f3 f4 f5⟩
  self := fun _ _ _ _ _ st h => wpAny_pyIter_listiter st h
theorem turn_tuple {P : Program} {w : World} {K : PySem.W.Frag} {tg : Expr} (a it : Addr) : Turn P w K tg (Itt K a) [it] it (fun i h => h.IsTupleIter it a i) where
  mem := by simp
  obj := fun i h st b hb => by
    have e : b = it := by simpa using hb
    subst e
    obtain ⟨o, e, c, d⟩ := st
    exact ⟨o, e, fun v z => by rw [d] at z; cases z⟩
  keep := fun i h h' st k => st.at fun o e => k it (by simp) o e
  item := by
    intro X hP hw hK hc i pins s σ H E I hf st hg
    subst hP hw hK
    obtain ⟨xs, x, hq, hx⟩ := hg
    obtain ⟨its, rv, p, hz⟩ := I.tuple hq
    obtain ⟨u, hu, ru⟩ := rv.get hx
    obtain ⟨f0, f1, f2, f3, f4, f5⟩ := hf it (by simp)
    refine wpAny_pyNext_tuple_item st (show s.heap.IsTuple a its.toArray from p) (x := u) (by simpa using hu) fun h' st' sb => ?_
    have I1 : Inv X pins σ H { s with heap := h' } := I.turned (t' := s.toks) (fun b o hb e => (sb.2 b hb).trans e) f0 f1 f3 f4 f5
    obtain ⟨o, e, c, d⟩ := id st'
    exact ⟨u, rfl, go_of (s := { s with heap := h' }) e c d (by decide) ⟨x, H, I1, ru, ⟨rfl, fun ys hy => by rw [I.tuple_inj hy hq]; exact hx⟩, st', fun b hb => (hf b hb).1⟩⟩
  done := by
    intro X hP hw hK hc i pins s σ H E I hf st hg
    subst hP hw hK
    obtain ⟨xs, hq, hx⟩ := hg
    obtain ⟨its, rv, p, hz⟩ := I.tuple hq
    obtain ⟨f0, f1, f2, f3, f4, f5⟩ := hf it (by simp)
    have hl := rv.length
    exact wpAny_pyNext_tuple_end (I.ok.hd hc) st (show s.heap.IsTuple a its.toArray from p) (by simp; omega) fun h' eb => ⟨rfl, I.turned (t' := s.toks) (fun b o hb e => eb b o hb e) f0 f1 f3 f4 f5⟩
  self := fun _ _ _ _ _ st h => wpAny_pyIter_tupleiter st h
theorem turn_range {P : Program} {w : World} {K : PySem.W.Frag} {tg : Expr} (it : Addr) (lo : Int) (n : Nat) : Turn P w K tg (Itr lo n) [it] it (fun i h => IsRangeIter h it (lo + (i : Nat) * 1) ((n : Int) - (i : Nat)) 1) where
  mem := by simp
  obj := fun i h st b hb => by
    have e : b = it := by simpa using hb
    subst e
    exact ⟨_, st, fun v z => by
      have z' : Data.fields _ = Data.cell v := z
      cases z'⟩
  keep := fun i h h' st k => k it (by simp) _ st
  item := by
    intro X hP hw hK hc i pins s σ H E I hf st hg
    subst hP hw hK
    obtain ⟨f0, f1, f2, f3, f4, f5⟩ := hf it (by simp)
    have W := Walks.range (prog := X.prog) (w := X.w) (I.ok.hd hc) it lo 1 n
    refine W.item i s _ _ hg st fun v h' tk hv st' kk => ?_
    obtain ⟨t, rfl⟩ := hv
    have I1 : Inv X pins σ H { s with heap := h', toks := tk } := I.turned (fun b o hb e => kk b o (by simpa using hb) e) f0 f1 f3 f4 f5
    refine ⟨_, rfl, go_of (s := { s with heap := h', toks := tk }) (n := "range_iterator") st' rfl rfl (by decide) ⟨.int (lo + i), H, I1, ⟨t, ?_⟩, ⟨rfl, rfl⟩, st', fun b hb => (hf b hb).1⟩⟩
    rw [Int.mul_one]
  done := by
    intro X hP hw hK hc i pins s σ H E I hf st hg
    subst hP hw hK
    obtain ⟨f0, f1, f2, f3, f4, f5⟩ := hf it (by simp)
    exact wpAny_pyNext_range_end (I.ok.hd hc) st (by have : n ≤ i := hg; omega) fun h' eb => ⟨rfl, I.turned (t' := s.toks) (fun b o hb e => eb b o hb e) f0 f1 f3 f4 f5⟩
  self := fun _ _ _ _ _ st h => wpAny_pyIter_rangeiter st h
end L2

namespace L2
open PySem PySem.Spec PyProof.Rows
section
variable {X : Cx} {tg : Expr}
/-- a range object just made, walked -/
theorem range_it {pins : List (Addr × Obj)} {σ : St} {H : Hp} {s : Shared} {R : It → Hp → Prop} {E : Value → Shared → Prop} {lo hi : Int} {t u v : Tok} {tk : Nat} (I : Inv X pins σ H s) (h1 : -(2 ^ 62) ≤ lo) (h2 : lo < 2 ^ 62) (h3 : -(2 ^ 62) ≤ hi) (h4 : hi < 2 ^ 62)
    (q : R (Itr lo (hi - lo).toNat) H) : wpAny (model X.prog X.w) X.A (pyIter (.ref s.heap.objs.size)) (PIE X pins σ tg R) E { s with heap := s.heap.push { cls := .type "range", data := .fields #[.int lo t, .int hi u, .int 1 v] }, toks := tk } := by
  refine wpAny_pyIter_range (IsRange.new ..) (small_one h1 h2 h3 h4) ?_
  have I1 : Inv X pins σ H { s with heap := s.heap.push { cls := .type "range", data := .fields #[.int lo t, .int hi u, .int 1 v] }, toks := tk } := I.kept fun b o e => Heap.get?_push_of_some _ e
  refine ⟨(s.heap.push { cls := .type "range", data := .fields #[.int lo t, .int hi u, .int 1 v] }).objs.size, [(s.heap.push { cls := .type "range", data := .fields #[.int lo t, .int hi u, .int 1 v] }).objs.size], _, _, H, rfl,
    I1.kept (t' := tk) fun b o e => Heap.get?_push_of_some _ e, turn_range _ lo (hi - lo).toNat, ?_, fun b hb => ?_, q⟩
  · have e1 : lo + ((0 : Nat) : Int) * 1 = lo := by simp
    have e2 : (((hi - lo).toNat : Nat) : Int) - ((0 : Nat) : Int) = Builtin.Range.rangeSize lo hi 1 := by rw [rangeSize_one]; split <;> omega
    show IsRangeIter _ _ (lo + ((0 : Nat) : Int) * 1) ((((hi - lo).toNat : Nat) : Int) - ((0 : Nat) : Int)) 1
    rw [e1, e2]
    exact Heap.get?_push_size _ rfl
  · have e : b = (s.heap.push { cls := .type "range", data := .fields #[.int lo t, .int hi u, .int 1 v] }).objs.size := by simpa using hb
    subst e
    exact I1.fpOk (Nat.le_refl _) (I1.hok.fresh (Nat.le_refl _))
def iRng1 (ta : TA) : TI := fun σ H R => ta σ H fun vs H1 => ∃ j : Int, vs = [.int j] ∧ -(2 ^ 62) ≤ j ∧ j < 2 ^ 62 ∧ R (Itr 0 j.toNat) H1
theorem pi_range1 {a : Expr} {ta : TA} {p pos : Pos} (hg : Gl X "range") (hm : X.mg "range" = none) (ha : PA X [a] ta) (hs : starEach [a] X.env = [(false, eval a X.env)] := by rfl) : PI X tg (.Call (.Name "range" p) [a] [] pos) (iRng1 ta) := by
  intro pins s σ H R I h
  refine Call_ (ld_blt I hg hm boot_range (PyProof.Rows.callWith_type1 (thn (ha pos pins s σ H _ I h) fun us s1 ⟨vs, H1, I1, r1, q1⟩ => ?_) hs rfl))
  obtain ⟨j, e, q1, q2, q⟩ := q1
  subst e
  cases r1 with
  | cons r rr =>
    cases rr
    obtain ⟨t, rfl⟩ := r
    exact call_range_1 (range_it I1 (by omega) (by omega) q1 q2 (by simpa using q))

/-! ### for -/
/-- W: the invariant by the turn and a measure; N: what the body is to reach -/
def tFor (wi : TI) (g : TG) (tb : TS) : TS := fun D σ H => wi σ H fun J H1 => ∃ W : Nat → Nat → St → Hp → Prop, (∃ m, W 0 m σ H1) ∧ ∀ i m σ H, W i m σ H →
  (J.stop i H ∧ D.nx σ H) ∨ (J.go i H ∧ ∃ N : St → Hp → Prop, (∀ σ' H', N σ' H' → ∃ m', m' < m ∧ W (i + 1) m' σ' H') ∧ ∀ x H', J.yld i H x H' → g x σ H' fun σ2 H2 => tb { D with nx := N, ct := N, bk := D.nx } σ2 H2)
/-- the records at fp as they stand -/
def pinsAt (fp : List Addr) (h : Heap) : List (Addr × Obj) := fp.filterMap fun b => (h.get? b).map fun o => (b, o)
theorem mem_pinsAt {fp : List Addr} {h : Heap} {b : Addr} {o : Obj} (hb : b ∈ fp) (e : h.get? b = some o) : (b, o) ∈ pinsAt fp h := List.mem_filterMap.mpr ⟨b, hb, by rw [e]; rfl⟩
theorem of_pinsAt {fp : List Addr} {h : Heap} {p : Addr × Obj} (hp : p ∈ pinsAt fp h) : p.1 ∈ fp ∧ h.get? p.1 = some p.2 := by
  obtain ⟨b, hb, e⟩ := List.mem_filterMap.mp hp
  cases q : h.get? b with
  | none => rw [q] at e; cases e
  | some o =>
    rw [q] at e
    have e' : (b, o) = p := Option.some.inj e
    subst e'
    exact ⟨hb, q⟩
theorem Inv.pinned {pins : List (Addr × Obj)} {σ : St} {H : Hp} {s : Shared} {fp : List Addr} (I : Inv X pins σ H s) (hf : ∀ b ∈ fp, FpOk X pins H b) (ho : ∀ b ∈ fp, ∃ o, s.heap.get? b = some o ∧ ∀ v, o.data ≠ .cell v) : Inv X (pins ++ pinsAt fp s.heap) σ H s :=
  I.pins_of fun p hp => (List.mem_append.mp hp).elim (fun z => I.pin p (List.mem_append_right _ z)) fun z => by
    obtain ⟨hb, e⟩ := of_pinsAt z
    obtain ⟨f0, f1, f2, _⟩ := hf p.1 hb
    obtain ⟨o, e', d⟩ := ho p.1 hb
    rw [e] at e'; cases e'
    exact ⟨e, f0, f1, f2, d⟩
theorem Inv.unpinned {pins pl : List (Addr × Obj)} {σ : St} {H : Hp} {s : Shared} (I : Inv X (pins ++ pl) σ H s) : Inv X pins σ H s := I.pins_of fun p hp => I.pin p (List.mem_append_right _ (List.mem_append_left _ hp))
theorem ps_for {iter : Expr} {body : List Stmt} {wi : TI} {g : TG} {tb : TS} {pos : Pos} (hp : PassesOwn (model X.prog X.w) X.A X.env X.xe) (hc : X.calm = true) (hi : PI X tg iter wi) (hg : PG X tg g) (hb : PSs X body tb)
    (hs : ∀ x, foldedSetIterable iter X.env x = pure x := by intro _; rfl) : PS X (.For tg iter body [] pos) (tFor wi g tb) := by
  intro pins s σ H D I h
  refine wpAny_For (thn (hi pins s σ H _ I h) fun v s1 h1 => thn h1 fun itv s2 h2 => ?_) hs
  obtain ⟨it, fp, tn, J, H2, e, I2, T, st2, f2, W, ⟨m0, w0⟩, turn⟩ := h2
  subst e
  -- what stays true of the iterator's objects through the loop
  have stat : ∀ {H' : Hp}, (∀ b ∈ fp, H' b = none) → ∀ b ∈ fp, FpOk X pins H' b := fun hn b hb => ⟨hn b hb, (f2 b hb).2⟩
  refine codeAny_forLoop_any (fun n s' => ∃ i σ' H', Inv X pins σ' H' s' ∧ tn i s'.heap ∧ (∀ b ∈ fp, H' b = none) ∧ W i n σ' H') ?_ m0 ⟨0, σ, H2, I2, st2, fun b hb => (f2 b hb).1, w0⟩
  rintro n s3 ⟨i, σ3, H3, I3, st3, fr3, w3⟩
  rcases turn i n σ3 H3 w3 with ⟨stop, qn⟩ | ⟨go, N, hN, step⟩
  · refine wpAny_passesOwn hp (thn (T.done X rfl rfl rfl hc i pins s3 σ3 H3 X.xe I3 (stat fr3) st3 stop) fun r s4 ⟨hr, I4⟩ => ?_)
    subst hr
    exact wpAny_execs_nil ⟨σ3, H3, I4, qn⟩
  · refine wpAny_passesOwn hp (thn (T.item X rfl rfl rfl hc i pins s3 σ3 H3 X.xe I3 (stat fr3) st3 go) fun r s4 ⟨u, hr, h4⟩ => ?_)
    subst hr
    refine wpAny_passesOwn hp (thn h4 fun _ s5 ⟨x, H5, I5, r5, y5, st5, fr5⟩ => ?_)
    have I5' := I5.pinned (stat fr5) (T.obj _ _ st5)
    refine wpAny_passesOwn hp (thn (hg _ s5 σ3 H5 x u _ I5' r5 (step x H5 y5)) fun _ s6 ⟨σ6, H6, I6, q6⟩ => ?_)
    refine wpAny_passesOwn hp (thn (hb _ s6 σ6 H6 _ I6 q6) fun f s7 q7 => ?_)
    have again : ∀ {σ7 : St} {H7 : Hp}, Inv X (pins ++ pinsAt fp s5.heap) σ7 H7 s7 → N σ7 H7 → ∃ m, m < n ∧ ∃ i σ' H', Inv X pins σ' H' s7 ∧ tn i s7.heap ∧ (∀ b ∈ fp, H' b = none) ∧ W i m σ' H' := fun {σ7 H7} I7 n7 => by
      obtain ⟨m', hm, w7⟩ := hN σ7 H7 n7
      refine ⟨m', hm, i + 1, σ7, H7, I7.unpinned, T.keep _ _ _ st5 fun b hb o e => (I7.pin (b, o) (List.mem_append_right _ (List.mem_append_right _ (mem_pinsAt hb e)))).1, fun b hb => ?_, w7⟩
      obtain ⟨o, e, d⟩ := T.obj _ _ st5 b hb
      exact (I7.pin (b, o) (List.mem_append_right _ (List.mem_append_right _ (mem_pinsAt hb e)))).2.1
    cases f with
    | next => obtain ⟨σ7, H7, I7, n7⟩ := q7; exact again I7 n7
    | cont => obtain ⟨σ7, H7, I7, n7⟩ := q7; exact again I7 n7
    | brk => obtain ⟨σ7, H7, I7, q7⟩ := q7; exact ⟨σ7, H7, I7.unpinned, q7⟩
    | ret v => obtain ⟨x7, σ7, H7, I7, r7, q7⟩ := q7; exact ⟨x7, σ7, H7, I7.unpinned, r7, q7⟩
end

/-! ### the forms one uses -/
end L2

namespace L2
open PySem PySem.Spec PyProof.Rows

abbrev R2 := V → V → Hp → VK → Prop
/-- a two-place operation on values: f is binaryOp op, inplaceOp op or compareOp op -/
def OpR (X : Cx) (f : Value → Value → Sem Value) (r : R2) : Prop :=
  ∀ (pins : List (Addr × Obj)) (s : Shared) (σ : St) (H : Hp) (x y : V) (v u : Value) (Q : VK), Inv X pins σ H s → RelV x v → RelV y u → r x y H Q →
    wpAny (model X.prog X.w) X.A (f v u) (EP X pins σ Q) X.xe s
/-- a one-place operation -/
def UnR (X : Cx) (f : Value → Sem Value) (r : V → Hp → VK → Prop) : Prop :=
  ∀ (pins : List (Addr × Obj)) (s : Shared) (σ : St) (H : Hp) (x : V) (v : Value) (Q : VK), Inv X pins σ H s → RelV x v → r x H Q →
    wpAny (model X.prog X.w) X.A (f v) (EP X pins σ Q) X.xe s
/-- a call of a value that is known (a builtin, a type) with values -/
def CallR (X : Cx) (f : Value) (r : List V → Hp → VK → Prop) : Prop :=
  ∀ (pins : List (Addr × Obj)) (s : Shared) (σ : St) (H : Hp) (xs : List V) (us : List Value) (Q : VK), Inv X pins σ H s → Vals xs us → r xs H Q →
    wpAny (model X.prog X.w) X.A (call f us) (EP X pins σ Q) X.xe s

def tOp (r : R2) (ta tb : TE) : TE := fun σ H Q => ta σ H fun x H1 => tb σ H1 fun y H2 => r x y H2 Q
/-- ints in, under C, and a value out -/
def rI (C : Int → Int → Prop) (g : Int → Int → V) : R2 := fun x y H Q => ∃ i j, x = .int i ∧ y = .int j ∧ C i j ∧ Q (g i j) H
def rI0 (g : Int → Int → V) : R2 := fun x y H Q => ∃ i j, x = .int i ∧ y = .int j ∧ Q (g i j) H

section
variable {X : Cx} {a b c : Expr} {ta tb tc : TE} {pos : Pos}

theorem binT (ha : PE X a ta) (hb : PE X b tb) {pins : List (Addr × Obj)} {s : Shared} {σ : St} {H : Hp} {R : V → V → Hp → Prop} (I : Inv X pins σ H s)
    (h : ta σ H fun x H1 => tb σ H1 fun y H2 => R x y H2) {Q : Value → Shared → Prop} {f : Value → Value → Sem Value}
    (hf : ∀ v u s2 x y H2, Inv X pins σ H2 s2 → RelV x v → RelV y u → R x y H2 → wpAny (model X.prog X.w) X.A (f v u) Q X.xe s2) :
    wpAny (model X.prog X.w) X.A (eval a X.env) (fun v s₁ => wpAny (model X.prog X.w) X.A (eval b X.env) (fun u s₂ => wpAny (model X.prog X.w) X.A (f v u) Q X.xe s₂) X.xe s₁) X.xe s := by
  refine thn (ha pins s σ H _ I h) fun v s1 ⟨x, H1, I1, r1, q1⟩ => ?_
  refine thn (hb pins s1 σ H1 _ I1 q1) fun u s2 ⟨y, H2, I2, r2, q2⟩ => ?_
  exact hf v u s2 x y H2 I2 r1 r2 q2

theorem pe_op {op : Operator} {r : R2} (ho : OpR X (binaryOp op) r) (ha : PE X a ta) (hb : PE X b tb) : PE X (.BinOp a op b pos) (tOp r ta tb) := by
  intro pins s σ H Q I h
  exact wpAny_BinOp (binT ha hb I h fun v u s2 x y H2 I2 rx ry q => ho pins s2 σ H2 x y v u Q I2 rx ry q)

/-! ### ints -/
theorem opI {f : Value → Value → Sem Value} {C : Int → Int → Prop} {g : Int → Int → Int}
    (rule : ∀ (i j : Int) (t u : Tok) (s : Shared) (Q : Value → Shared → Prop) (E : Value → Shared → Prop), C i j → Q (.int (g i j) s.toks) { s with toks := s.toks + 1 } → wpAny (model X.prog X.w) X.A (f (.int i t) (.int j u)) Q E s) :
    OpR X f (rI C fun i j => .int (g i j)) := by
  intro pins s σ H x y v u Q I rx ry h
  obtain ⟨i, j, rfl, rfl, hc, q⟩ := h
  obtain ⟨t, rfl⟩ := rx
  obtain ⟨t', rfl⟩ := ry
  exact rule i j t t' s _ _ hc ⟨.int (g i j), H, I.tok _, ⟨_, rfl⟩, q⟩
theorem opI0 {f : Value → Value → Sem Value} {g : Int → Int → Int}
    (rule : ∀ (i j : Int) (t u : Tok) (s : Shared) (Q : Value → Shared → Prop) (E : Value → Shared → Prop), Q (.int (g i j) s.toks) { s with toks := s.toks + 1 } → wpAny (model X.prog X.w) X.A (f (.int i t) (.int j u)) Q E s) :
    OpR X f (rI0 fun i j => .int (g i j)) := by
  intro pins s σ H x y v u Q I rx ry h
  obtain ⟨i, j, rfl, rfl, q⟩ := h
  obtain ⟨t, rfl⟩ := rx
  obtain ⟨t', rfl⟩ := ry
  exact rule i j t t' s _ _ ⟨.int (g i j), H, I.tok _, ⟨_, rfl⟩, q⟩

def CPow (i j : Int) : Prop := 0 ≤ j ∧ j ≤ 1000000 ∧ i.natAbs < 2 ^ 64
def CMul (i j : Int) : Prop := (-(2 ^ 64) < i ∧ i < 2 ^ 64) ∨ (-(2 ^ 64) < j ∧ j < 2 ^ 64)
theorem CMul.ok {i j : Int} (h : CMul i j) : IntMulOk i j := by
  rcases h with ⟨h1, h2⟩ | ⟨h1, h2⟩
  · exact .of_left (intBits_le_64 h1 h2)
  · exact .of_right (intBits_le_64 h1 h2)

theorem op_add : OpR X (binaryOp .Add) (rI0 fun i j => .int (i + j)) := opI0 fun _ _ _ _ _ _ _ q => add_int q
/-- % by a positive divisor of any size -/
theorem op_mod : OpR X (binaryOp .Mod) (rI (fun _ j => 0 < j) fun i j => .int (i % j)) := opI fun i j _ _ _ _ _ hc q => by
  have h1 : (0 : Int) < j := hc
  exact mod_int' (by omega) (by rw [Int.fmod_eq_emod_of_nonneg i (by omega)]; exact q)
theorem op_pow : OpR X (binaryOp .Pow) (rI CPow fun i j => .int (i ^ j.toNat)) := opI fun _ _ _ _ _ _ _ hc q => pow_int_small hc.1 hc.2.1 hc.2.2 q



/-! ### bools among ints: n += (a < b) -/
end

/-! ### comparisons -/
/-- the scalars that == tells apart as data does -/
def scal : V → V → Bool
  | .non, .non => true | .non, .int _ => true | .int _, .non => true | .non, .bl _ => true | .bl _, .non => true | .non, .str _ => true | .str _, .non => true
  | .int _, .int _ => true | .bl _, .bl _ => true | .str _, .str _ => true | .byt _, .byt _ => true
  | .int _, .str _ => true | .str _, .int _ => true | .bl _, .str _ => true | .str _, .bl _ => true
  | _, _ => false
def rEq : R2 := fun x y H Q => scal x y = true ∧ Q (.bl (decide (x = y))) H
def rNe : R2 := fun x y H Q => scal x y = true ∧ Q (.bl (!decide (x = y))) H

theorem dec_int {i j : Int} : decide (V.int i = V.int j) = (i == j) := by
  rw [Bool.eq_iff_iff]
  simp
theorem dec_bl {i j : Bool} : decide (V.bl i = V.bl j) = (i == j) := by
  rw [Bool.eq_iff_iff]
  simp
theorem dec_str {i j : Str} : decide (V.str i = V.str j) = (i == j) := by
  rw [Bool.eq_iff_iff]
  simp
theorem dec_byt {i j : Array UInt8} : decide (V.byt i = V.byt j) = (i.toList == j.toList) := by
  rw [Bool.eq_iff_iff]
  cases i
  cases j
  simp

section
variable {X : Cx} {a b c : Expr} {ta tb tc : TE} {pos : Pos}
theorem fin_bl {pins : List (Addr × Obj)} {σ : St} {H : Hp} {s : Shared} {Q : VK} {k k' : Bool} (I : Inv X pins σ H s) (q : Q (.bl k) H) (e : k = k') : EP X pins σ Q (.bool k') s := by
  subst e
  exact ⟨.bl k, H, I, rfl, q⟩
theorem op_eq : OpR X (compareOp .Eq) rEq := by
  intro pins s σ H x y v u Q I rx ry h
  obtain ⟨hs, q⟩ := h
  cases x with
  | non =>
    cases rx
    cases y with
    | non => cases ry; exact PySem.EqNone.eq_none_none (fin_bl I q (by simp))
    | bl j => cases ry; exact PySem.EqNone.eq_none_bool (fin_bl I q (by simp))
    | int j => obtain ⟨t', rfl⟩ := ry; exact PySem.EqNone.eq_none_int (fin_bl I q (by simp))
    | str j => obtain ⟨t', rfl⟩ := ry; exact PySem.EqNone.eq_none_str (fin_bl I q (by simp))
    | _ => exact absurd (show false = true from hs) Bool.false_ne_true
  | bl i =>
    cases rx
    cases y with
    | non => cases ry; exact PySem.EqNone.eq_bool_none (fin_bl I q (by simp))
    | bl j => cases ry; exact eq_bool (fin_bl I q dec_bl)
    | str j => obtain ⟨t', rfl⟩ := ry; exact PySem.EqMixed.eq_bool_str (fin_bl I q (by simp))
    | _ => exact absurd (show false = true from hs) Bool.false_ne_true
  | int i =>
    obtain ⟨t, rfl⟩ := rx
    cases y with
    | non => cases ry; exact PySem.EqNone.eq_int_none (fin_bl I q (by simp))
    | int j => obtain ⟨t', rfl⟩ := ry; exact eq_int (fin_bl I q dec_int)
    | str j => obtain ⟨t', rfl⟩ := ry; exact PySem.EqMixed.eq_int_str (fin_bl I q (by simp))
    | _ => exact absurd (show false = true from hs) Bool.false_ne_true
  | str i =>
    obtain ⟨t, rfl⟩ := rx
    cases y with
    | non => cases ry; exact PySem.EqNone.eq_str_none (fin_bl I q (by simp))
    | bl j => cases ry; exact PySem.EqMixed.eq_str_bool (fin_bl I q (by simp))
    | int j => obtain ⟨t', rfl⟩ := ry; exact PySem.EqMixed.eq_str_int (fin_bl I q (by simp))
    | str j => obtain ⟨t', rfl⟩ := ry; exact eq_str (fin_bl I q dec_str)
    | _ => exact absurd (show false = true from hs) Bool.false_ne_true
  | byt i =>
    obtain ⟨t, rfl⟩ := rx
    cases y with
    | byt j => obtain ⟨t', rfl⟩ := ry; exact PySem.W.eq_bytes (fin_bl I q dec_byt)
    | _ => exact absurd (show false = true from hs) Bool.false_ne_true
  | _ => cases y <;> exact absurd (show false = true from hs) Bool.false_ne_true
theorem op_ne : OpR X (compareOp .NotEq) rNe := by
  intro pins s σ H x y v u Q I rx ry h
  obtain ⟨hs, q⟩ := h
  cases x with
  | non =>
    cases rx
    cases y with
    | non => cases ry; exact PySem.EqNone.ne_none_none (fin_bl I q (by simp))
    | bl j => cases ry; exact PySem.EqNone.ne_none_bool (fin_bl I q (by simp))
    | int j => obtain ⟨t', rfl⟩ := ry; exact PySem.EqNone.ne_none_int (fin_bl I q (by simp))
    | str j => obtain ⟨t', rfl⟩ := ry; exact PySem.EqNone.ne_none_str (fin_bl I q (by simp))
    | _ => exact absurd (show false = true from hs) Bool.false_ne_true
  | bl i =>
    cases rx
    cases y with
    | non => cases ry; exact PySem.EqNone.ne_bool_none (fin_bl I q (by simp))
    | bl j => cases ry; exact ne_bool (fin_bl I q (congrArg not dec_bl))
    | str j => obtain ⟨t', rfl⟩ := ry; exact PySem.EqMixed.ne_bool_str (fin_bl I q (by simp))
    | _ => exact absurd (show false = true from hs) Bool.false_ne_true
  | int i =>
    obtain ⟨t, rfl⟩ := rx
    cases y with
    | non => cases ry; exact PySem.EqNone.ne_int_none (fin_bl I q (by simp))
    | int j => obtain ⟨t', rfl⟩ := ry; exact ne_int (fin_bl I q (congrArg not dec_int))
    | str j => obtain ⟨t', rfl⟩ := ry; exact PySem.EqMixed.ne_int_str (fin_bl I q (by simp))
    | _ => exact absurd (show false = true from hs) Bool.false_ne_true
  | str i =>
    obtain ⟨t, rfl⟩ := rx
    cases y with
    | non => cases ry; exact PySem.EqNone.ne_str_none (fin_bl I q (by simp))
    | bl j => cases ry; exact PySem.EqMixed.ne_str_bool (fin_bl I q (by simp))
    | int j => obtain ⟨t', rfl⟩ := ry; exact PySem.EqMixed.ne_str_int (fin_bl I q (by simp))
    | str j => obtain ⟨t', rfl⟩ := ry; exact ne_str (fin_bl I q (congrArg not dec_str))
    | _ => exact absurd (show false = true from hs) Bool.false_ne_true
  | byt i =>
    obtain ⟨t, rfl⟩ := rx
    cases y with
    | byt j => obtain ⟨t', rfl⟩ := ry; exact PySem.W.ne_bytes (fin_bl I q (congrArg not dec_byt))
    | _ => exact absurd (show false = true from hs) Bool.false_ne_true
  | _ => cases y <;> exact absurd (show false = true from hs) Bool.false_ne_true




/-- two rules for one operation: by cases -/
theorem OpR.or {f : Value → Value → Sem Value} {r r' : R2} (h : OpR X f r) (h' : OpR X f r') : OpR X f (fun x y H Q => r x y H Q ∨ r' x y H Q) := by
  intro pins s σ H x y v u Q I rx ry q
  rcases q with q | q
  · exact h pins s σ H x y v u Q I rx ry q
  · exact h' pins s σ H x y v u Q I rx ry q

theorem nomark (b : Expr) {op : CmpOp} (h : op ≠ .In := by decide) (h2 : op ≠ .NotIn := by decide) : behindInMarks op b = false := by
  have e1 : (op == CmpOp.In) = false := by cases op <;> first | rfl | exact absurd rfl h
  have e2 : (op == CmpOp.NotIn) = false := by cases op <;> first | rfl | exact absurd rfl h2
  cases b <;> simp [behindInMarks, e1, e2]
/-- a comparison as a value; hm: nomark b, or (for in, not in) by with_unfolding_all rfl -/
theorem pe_cmpR {op : CmpOp} {r : R2} (ho : OpR X (compareOp op) r) (ha : PE X a ta) (hb : PE X b tb) (hm : behindInMarks op b = false) : PE X (.Compare a [op] [b] pos) (tOp r ta tb) := by
  intro pins s σ H Q I h
  exact wpAny_Compare1 (binT ha hb I h fun v u s2 x y H2 I2 rx ry q => ho pins s2 σ H2 x y v u Q I2 rx ry q) hm
/-- a reading of a value as a test -/
def tTest (t : TE) : TT := fun σ H Q => t σ H fun x H' => ∃ k, x = .bl k ∧ Q k H'
theorem pt_cmpR {op : CmpOp} {r : R2} (ho : OpR X (compareOp op) r) (ha : PE X a ta) (hb : PE X b tb) (hm : behindInMarks op b = false) : PT X (.Compare a [op] [b] pos) (tTest (tOp r ta tb)) := by
  intro pins s σ H Q I h
  refine wpAny_isTrue_Compare1 (thn (ha pins s σ H _ I h) fun v s1 ⟨x, H1, I1, r1, q1⟩ => thn (hb pins s1 σ H1 _ I1 q1) fun u s2 ⟨y, H2, I2, r2, q2⟩ =>
    thn (ho pins s2 σ H2 x y v u _ I2 r1 r2 q2) fun c s3 ⟨z, H3, I3, r3, k, e, q3⟩ => ?_) hm
  subst e
  cases r3
  exact wpAny_truthy_bool ⟨H3, I3, q3⟩

/-! ### truth -/
theorem line63 : (sizeLine : Nat) < 2 ^ 63 := by rw [sizeLine_eq]; decide

/-! ### strs and bytes -/


/-! ### scalar builtins, by CallR -/
theorem vals2 {x y : V} {us : List Value} (r : Vals [x, y] us) : ∃ u w', us = [u, w'] ∧ RelV x u ∧ RelV y w' := by
  cases r with
  | cons r1 r2 =>
    cases r2 with
    | cons r3 r4 => cases r4; exact ⟨_, _, rfl, r1, r3⟩
end
end L2

namespace L2
open PySem PySem.Spec PyProof.Rows

/-! ### an instance, its attributes a map -/
structure ObjM (h : Heap) (x dx C : Addr) (mA : Str → Option Value) : Prop where
  obj : h.get? x = some (PySem.W.instObj C dx)
  ns : h.Ns1 dx mA
  ne : dx ≠ x

theorem lookIn_ns {h : Heap} {dx : Addr} {mA : Str → Option Value} (n : h.Ns1 dx mA) : ∃ od, h.get? dx = some od ∧ ∀ name, PySem.W.lookIn name od = some (mA name) := by
  obtain ⟨o, es, ep, ho, hd, hk, _, hm⟩ := n
  refine ⟨o, ho, fun name => ?_⟩
  have e := hm name
  unfold nsFind findBy at e
  rw [← Array.find?_toList] at e
  unfold PySem.W.lookIn
  rw [hd]
  dsimp only
  split
  · rename_i y q
    rw [q] at e
    exact congrArg some e
  · rename_i q
    rw [q] at e
    have a : es.toList.any (·.refKey) = false := by
      rw [List.any_eq_false]
      intro y hy
      obtain ⟨z, t, hkey⟩ := hk y (Array.mem_toList_iff.mp hy)
      simp [DictEntry.refKey, hkey]
    have a' : ¬ es.toList.any (·.refKey) = true := by rw [a]; exact Bool.false_ne_true
    rw [if_neg a']
    exact congrArg some e

theorem ObjM.look {h : Heap} {x dx C : Addr} {mA : Str → Option Value} (I : ObjM h x dx C mA) : ∃ od, PySem.W.InstAt h x (PySem.W.instObj C dx) C (some od) ∧ ∀ name, PySem.W.lookIn name od = some (mA name) :=
  let ⟨od, ho, hl⟩ := lookIn_ns I.ns
  ⟨od, ⟨I.obj, rfl, rfl, ho⟩, hl⟩

section
variable {prog : Program} {w : World} {A : Around} {E : Value → Shared → Prop} {s : Shared} {K : PySem.W.Frag} {x dx C f : Addr} {mA : Str → Option Value} {name : Str} {v : Value}





end

/-! ### the attributes as a list of pairs -/

theorem RelO.some_of {v : V} {o : Option Value} (r : RelO (some v) o) : ∃ u, o = some u ∧ RelV v u := by
  cases o with
  | none => exact (show False from r).elim
  | some u => exact ⟨u, rfl, r⟩
theorem handed_of {v : V} {u : Value} (r : RelV v u) : PySem.W.handedIn u = true := by
  cases v with
  | non => cases (show u = Value.none from r); rfl
  | bl b => cases (show u = Value.bool b from r); rfl
  | int i => obtain ⟨t, e⟩ := (show ∃ t, u = Value.int i t from r); cases e; rfl
  | str x => obtain ⟨t, e⟩ := (show ∃ t, u = Value.str x t from r); cases e; rfl
  | byt b => obtain ⟨t, e⟩ := (show ∃ t, u = Value.bytes b t from r); cases e; rfl
  | flt b => obtain ⟨t, e⟩ := (show ∃ t, u = Value.float b t from r); cases e; rfl
  | ref a => cases (show u = Value.ref a from r); rfl
  | ty n => cases (show u = Value.type n from r); rfl

section
variable {P : Program} {w : World} {H H' : Hp} {h h' : Heap} {a C dx : Addr} {fs fs' : List (Str × V)}
end

/-! ### what of the text a class must have -/
structure Cls (K : PySem.W.Frag) (C : Addr) : Prop where
  pg : PySem.W.plainGet K C Str.empty = true
  hd : PySem.W.hasDictIn K C = true
  po : PySem.W.plainOver K C = true
  sa : PySem.W.findIn K (.ref C) "__setattr__" = some (some (.builtin "object.__setattr__"))
theorem Cls.get {K : PySem.W.Frag} {C : Addr} (c : Cls K C) (f : Str) : PySem.W.plainGet K C f = true := c.pg
/-- a constant of the class -/
structure Con (K : PySem.W.Frag) (C : Addr) (f : Str) (v : V) (u : Value) : Prop where
  at_ : PySem.W.findIn K (.ref C) f = some (some u)
  rel : RelV v u
  get : PySem.W.specialIn K u "__get__" = some none
  cp : PySem.W.copiedNames.contains f = false
/-- a method: a plain def of the class or of one above it -/
structure Meth (K : PySem.W.Frag) (C : Addr) (m : Str) (f : Addr) : Prop where
  at_ : PySem.W.findIn K (.ref C) m = some (some (.ref f))
  fn : PySem.W.isFn K (.ref f) = true
  kp : PySem.W.keepIn K (.ref f) = true

section
variable {X : Cx} {pins : List (Addr × Obj)} {σ : St} {H : Hp} {s : Shared} {a C dx : Addr} {fs : List (Str × V)} {f : Str} {v : V} {A : Around} {E : Value → Shared → Prop}





/-- a new instance, tracked, without attributes -/
theorem Inv.made (I : Inv X pins σ H s) : Inv X pins σ (upd (upd H s.heap.objs.size (.own (s.heap.objs.size + 1))) (s.heap.objs.size + 1) (.ins C s.heap.objs.size []))
    { s with heap := (s.heap.push PySem.W.emptyDict).push (PySem.W.instObj C s.heap.objs.size) } := by
  have e1 : (s.heap.push PySem.W.emptyDict).get? s.heap.objs.size = some PySem.W.emptyDict := Heap.get?_push_size s.heap rfl
  have e2 : ((s.heap.push PySem.W.emptyDict).push (PySem.W.instObj C s.heap.objs.size)).get? (s.heap.objs.size + 1) = some (PySem.W.instObj C s.heap.objs.size) := by
    have := Heap.get?_push_size (s.heap.push PySem.W.emptyDict) (o := PySem.W.instObj C s.heap.objs.size) rfl
    rwa [Heap.size_push] at this
  have e3 : (s.heap.push PySem.W.emptyDict).Ns s.heap.objs.size (fun _ => none) := ⟨PySem.W.emptyDict, #[], _, e1, rfl, (fun e he => absurd he (by simp)), fun _ => rfl⟩
  have I1 := I.laid (a := s.heap.objs.size) (o := .own (s.heap.objs.size + 1)) (h' := s.heap.push PySem.W.emptyDict) (t' := s.toks) (fun b u q => Heap.get?_push_of_some _ q) (Nat.le_refl _) ⟨_, e1⟩
  refine I1.laid (a := s.heap.objs.size + 1) (o := .ins C s.heap.objs.size []) (t' := s.toks) (fun b u q => Heap.get?_push_of_some _ q) (Nat.le_of_eq (Heap.size_push _ _)) ?_
  have ne : s.heap.objs.size ≠ s.heap.objs.size + 1 := Nat.ne_of_lt (Nat.lt_succ_self _)
  refine ⟨by rw [upd_ne ne, upd_same], Nat.zero_le _, ne, e2, fun _ => none, (Heap.Ns1.of_empty e3).at fun o q => Heap.get?_push_of_some _ q, fun _ => True.intro, fun y hy => absurd rfl hy⟩

/-- e.f where nothing but the object is asked: through attributeBase (super) and the last hold -/
theorem attr_of {prog : Program} {w : World} {env : Env} {e : Expr} {f : Str} {pos : Pos} {s : Shared} {Q : Value → Shared → Prop} (hb : attributeBase e f env (eval e env) = eval e env)
    (h : wpAny (model prog w) A (eval e env) (fun o s₁ => wpAny (model prog w) A (getAttr o f true) Q E s₁) E s) : wpAny (model prog w) A (eval (.Attribute e f pos) env) Q E s :=
  Attribute_any_ h (by rw [arm_eval_Attribute, hb])
end

/-! ### readings and rules -/

section
variable {X : Cx} {o e value : Expr} {f : Str} {pos pos' tpos : Pos} {ta tv : TE}

end

/-! ### isinstance -/
section
variable {X : Cx} {pins : List (Addr × Obj)} {σ : St} {H : Hp} {s : Shared} {A : Around} {E : Value → Shared → Prop} {Q : Value → Shared → Prop} {c : Value} {b : Bool}
/-- the type of a value, as the fragment's deciders take it; for an instance its class -/
inductive TyOf (K : PySem.W.Frag) (H : Hp) : V → Value → Prop where
  | non : TyOf K H .non (.type "NoneType")
  | bl (x : Bool) : TyOf K H (.bl x) (.type "bool")
  | int (i : Int) : TyOf K H (.int i) (.type "int")
  | str (x : Str) : TyOf K H (.str x) (.type "str")
  | flt (x : UInt64) : TyOf K H (.flt x) (.type "float")
  | lst {a : Addr} {xs : List V} (e : H a = some (.lst xs)) : TyOf K H (.ref a) (.type "list")
  | frz {a : Addr} {o : Obj} {xs : List V} (e : H a = some (.frz o (.lst xs))) : TyOf K H (.ref a) (.type "list")
  | tup {a : Addr} {xs : List V} (e : H a = some (.tup xs)) : TyOf K H (.ref a) (.type "tuple")
  | dK {a : Addr} {kvs : List (Key × V)} (e : H a = some (.dK kvs)) : TyOf K H (.ref a) (.type "dict")
  | dT {a : Addr} {kvs : List (List Key × V)} (e : H a = some (.dT kvs)) : TyOf K H (.ref a) (.type "dict")
  | ins {a C dx : Addr} {fs : List (Str × V)} (e : H a = some (.ins C dx fs)) (cl : Cls K C) (ha : PySem.W.findIn K (.ref C) "__class__" = some (some (.builtin "object.__class__")))
      (hn : PySem.W.specialIn K (.builtin "object.__class__") "__get__" = some (some (.builtin "getset_descriptor.__get__"))) (htk : PySem.W.takesIn K (.builtin "object.__class__") = some true)
      (hm : PySem.W.mroIn K C (.type "object") = some true) : TyOf K H (.ref a) (.ref C)
end
end L2

namespace L2
open PySem PySem.Spec PyProof.Rows

/-! ### room -/
structure Room (k : Nat) (A : Around) : Prop where
  hd : A.handled = none
  dp : A.depth + 3 * k + 5 < recursionLimit
  un : A.units + 16 * k + 200 < cLine
  gd : A.guards = some []
theorem Room.mono {j k : Nat} {A : Around} (r : Room k A) (h : j ≤ k) : Room j A := ⟨r.hd, by have := r.dp; omega, by have := r.un; omega, r.gd⟩
theorem Room.deeper {k : Nat} {A : Around} (r : Room (k + 1) A) (env : Env) : Room k (A.deeper env) :=
  ⟨r.hd, by have := r.dp; show A.depth + 1 + 3 * k + 5 < _; omega, by have := r.un; show A.units + 3 + 16 * k + 200 < _; omega, r.gd⟩
theorem Room.in1 {k : Nat} {A : Around} (r : Room (k + 1) A) : Room k A.in1 :=
  ⟨r.hd, by have := r.dp; show A.depth + 3 * k + 5 < _; omega, by have := r.un; show A.units + 1 + 16 * k + 200 < _; omega, r.gd⟩
theorem make_depth {A : Around} {C : Addr} {us : List Value} {kw : List (Str × Value)} : (A.under (.builtin "type.__call__" ⟨.ref C :: us, kw⟩)).depth = A.depth + 1 := by
  first | rfl | simp [Around.under, Code.weight, Code.isCreation, Code.isGuard, Code.isCaller, Code.frames, Code.isFrame, guardIds]
theorem make_units {A : Around} {C : Addr} {us : List Value} {kw : List (Str × Value)} : (A.under (.builtin "type.__call__" ⟨.ref C :: us, kw⟩)).units = A.units + 1 := by
  first | rfl | simp [Around.under, Code.cUnits, Code.frames, Code.isFrame]
theorem make_guards {A : Around} {C : Addr} {us : List Value} {kw : List (Str × Value)} : (A.under (.builtin "type.__call__" ⟨.ref C :: us, kw⟩)).guards = A.guards := by
  first | rfl | simp [Around.under, Code.guards, pushGuards, Code.isGuard, guardIds] | (unfold Around.under; cases A.guards <;> rfl)
theorem Room.make {k : Nat} {A : Around} (r : Room (k + 1) A) (C : Addr) (us : List Value) (kw : List (Str × Value)) : Room k (A.under (.builtin "type.__call__" ⟨.ref C :: us, kw⟩)) :=
  ⟨r.hd, by have := r.dp; rw [make_depth]; omega, by have := r.un; rw [make_units]; omega, by rw [make_guards]; exact r.gd⟩
theorem Room.depth {k : Nat} {A : Around} (r : Room k A) : A.depth < recursionLimit := by have := r.dp; omega
theorem Room.units {k : Nat} {A : Around} (r : Room k A) : A.units + 64 < cLine := by have := r.un; omega

/-! ### argument lists and displays -/
def tNil : TA := fun _ H Q => Q [] H
def tCons (ta : TE) (tr : TA) : TA := fun σ H Q => ta σ H fun x H1 => tr σ H1 fun xs H2 => Q (x :: xs) H2
section
variable {X : Cx} {e : Expr} {es : List Expr} {te : TE} {t : TA} {pos : Pos}
theorem pa_nil : PA X [] tNil := fun _ _ _ _ H Q I h => Calls.spliced_nil ⟨[], H, I, .nil, h⟩
theorem pa_cons (ha : PE X e te) (hr : PA X es t) (hs : starEach (e :: es) X.env = (false, eval e X.env) :: starEach es X.env := by rfl) : PA X (e :: es) (tCons te t) := by
  intro pos pins s σ H Q I h
  rw [hs]
  show wpAny _ _ (spliced ((false, eval e X.env) :: backTo pos (starEach es X.env))) _ _ s
  refine Calls.spliced_cons (thn (ha pins s σ H _ I h) fun u s1 ⟨x, H1, I1, r1, q1⟩ => ?_)
  exact thn (hr pos pins s1 σ H1 _ I1 q1) fun us s2 ⟨xs, H2, I2, r2, q2⟩ => ⟨x :: xs, H2, I2, .cons r1 r2, q2⟩

def tLst (t : TA) : TE := fun σ H Q => t σ H fun xs H1 => xs.length ≤ sizeLine ∧ ∀ p, H1 p = none → Q (.ref p) (upd H1 p (.lst xs))
theorem pe_lst (h : PA X es t) : PE X (.List es pos) (tLst t) := by
  intro pins s σ H Q I hq
  refine wpAny_List_spliced (thn (h pos pins s σ H _ I hq) fun us s1 ⟨xs, H1, I1, r, z, q⟩ => ⟨by rw [← r.length]; exact z, ?_⟩)
  have hf : H1 s1.heap.objs.size = none := I1.hok.fresh (Nat.le_refl _)
  refine ⟨.ref s1.heap.objs.size, upd H1 s1.heap.objs.size (.lst xs), I1.laid (t' := s1.toks) (fun b u e => Heap.get?_push_of_some _ e) (Nat.le_refl _) ?_, rfl, q _ hf⟩
  exact ⟨z, us, 0, r, Heap.get?_push_size _ rfl⟩
end

/-! ### what a def promises -/
/-- a def's promise: the bound arguments in the parameters' order, the heap, the wanted end, the wanted exception -/
abbrev Sp := List V → Hp → VK → XK → Prop
/-- how an exception lies behind a call (file 08 gives it): the callers' frames, abstract heap and state ahead of the call, the wish, the exception, the state -/
abbrev CXT := List Env → Hp → Shared → XK → Value → Shared → Prop

/-- the state at a call -/
structure Env0 (P : Program) (w : World) (K : PySem.W.Frag) (mg : Str → Option Value) (base : Heap) (A : Around) (outer : List Env) (s : Shared) (H : Hp) : Prop where
  frames : A.frames = some outer
  mod : Mod K mg base
  bs : ∀ b o, base.get? b = some o → s.heap.get? b = some o ∧ H b = none
  bsz : base.objs.size ≤ s.heap.objs.size
  funs : s.heap.FunFrames base outer
  frf : ∀ b ∈ frs outer, H b = none
  hok : HOk P w H s.heap
  bare : AllBare s.gens
/-- a call's end -/
def CE (outer : List Env) (P : Program) (w : World) (H : Hp) (s : Shared) (Q : VK) (u : Value) (s' : Shared) : Prop :=
  ∃ v H', s'.os = s.os ∧ AllBare s'.gens ∧ Un (frs outer) [] H H' s.heap s'.heap ∧ HOk P w H' s'.heap ∧ RelV v u ∧ Q v H'
def CR (CX : CXT) (outer : List Env) (P : Program) (w : World) (H : Hp) (s : Shared) (Q : VK) (E : XK) (r : Result) (s' : Shared) : Prop :=
  match r with
  | .ok (.ret u) => CE outer P w H s Q u s'
  | .ok _ => False
  | .error e => CX outer H s E e s'
structure FnOk (P : Program) (w : World) (K : PySem.W.Frag) (mg : Str → Option Value) (base : Heap) (CX : CXT) (k : Nat) (f : Addr) (fd : FuncData) (ps : List Str) (sp : Sp) : Prop where
  len : ∀ vs H Q E, sp vs H Q E → vs.length = ps.length
  run : ∀ (A : Around) (outer : List Env) (s : Shared) (H : Hp) (args : Args) (us : List Value) (vs : List V) (Q : VK) (E : XK), Room k A → Env0 P w K mg base A outer s H → BindsTo s fd args (ps.zip us) → Vals vs us → sp vs H Q E →
    codeAny (model P w) A (.call (.ref f) args) (CR CX outer P w H s Q E) s
theorem FnOk.mono {P : Program} {w : World} {K : PySem.W.Frag} {mg : Str → Option Value} {base : Heap} {CX : CXT} {j k : Nat} {f : Addr} {fd : FuncData} {ps : List Str} {sp : Sp} (F : FnOk P w K mg base CX j f fd ps sp) (h : j ≤ k) :
    FnOk P w K mg base CX k f fd ps sp := ⟨F.len, fun A outer s H args us vs Q E hr => F.run A outer s H args us vs Q E (hr.mono h)⟩

theorem Env0.make {P : Program} {w : World} {K : PySem.W.Frag} {mg : Str → Option Value} {base : Heap} {A : Around} {outer : List Env} {s : Shared} {H : Hp} (e : Env0 P w K mg base A outer s H) (C : Addr) (us : List Value) (kw : List (Str × Value)) :
    Env0 P w K mg base (A.under (.builtin "type.__call__" ⟨.ref C :: us, kw⟩)) outer s H := ⟨by first | exact e.frames | (simpa [Around.under, Code.envs, Code.isFrame, pushEnvs] using e.frames), e.mod, e.bs, e.bsz, e.funs, e.frf, e.hok, e.bare⟩
theorem Env0.in1 {P : Program} {w : World} {K : PySem.W.Frag} {mg : Str → Option Value} {base : Heap} {A : Around} {outer : List Env} {s : Shared} {H : Hp} (e : Env0 P w K mg base A outer s H) :
    Env0 P w K mg base A.in1 outer s H := ⟨e.frames, e.mod, e.bs, e.bsz, e.funs, e.frf, e.hok, e.bare⟩

section
variable {X : Cx} {pins : List (Addr × Obj)} {σ : St} {H : Hp} {s s' : Shared}
/-- from a body: what a callee wants -/
theorem Inv.env0 (I : Inv X pins σ H s) : Env0 X.prog X.w X.K X.mg X.base X.A X.stack s H :=
  ⟨I.ok.frames, I.ok.mod, I.bs, Nat.le_trans I.ok.bsz I.sz, I.stack, I.stkFree, I.hok, I.bare⟩
/-- behind a call -/
theorem Inv.after {Q : VK} {u : Value} (I : Inv X pins σ H s) (h : CE X.stack X.prog X.w H s Q u s') : EP X pins σ Q u s' := by
  obtain ⟨v, H', os, bare, un, hok, r, q⟩ := h
  obtain ⟨hh, g, d, t, os'⟩ := s'
  obtain rfl : os' = s.os := os
  exact ⟨v, H', I.call (h' := hh) (g' := g) (d' := d) (t' := t) (ch := []) un hok bare (fun b z => absurd z (by simp)), r, q⟩
end

/-! ### calls -/
/-- f(..): the written arguments, then the defaults dvs; E: what is wanted of an exception -/
def tCall (sp : Sp) (dvs : List V) (E : XK) (t : TA) : TE := fun σ H Q => t σ H fun vs H1 => sp (vs ++ dvs) H1 Q E

/-- how the parameters are bound: us the positional arguments, kw the keywords' values by name, ds the defaults that fill up -/
def Binds (K : PySem.W.Frag) (fd : FuncData) (ps : List Str) (ds : List Value) : Prop :=
  ∀ (s : Shared) (us : List Value), K.In s.heap → (us ++ ds).length = ps.length → BindsTo s fd ⟨us, []⟩ (ps.zip (us ++ ds))
/-- every parameter is given -/
theorem Binds.all {K : PySem.W.Frag} {fd : FuncData} {ps : List Str} (h : ∀ us : List Value, us.length = ps.length → bindArgs fd ⟨us, []⟩ = pure (ps.zip us)) : Binds K fd ps [] := fun s us _ hl => by
  rw [List.append_nil] at hl ⊢
  exact .of_eq (h us hl)

/-- an exception of a callee reaches what this body wants of exceptions -/
def Passes (CX : CXT) (X : Cx) (E : XK) : Prop := ∀ (pins : List (Addr × Obj)) (σ : St) (H : Hp) (s : Shared) (e : Value) (s' : Shared), Inv X pins σ H s → CX X.stack H s E e s' → X.xe e s'

section
variable {X : Cx} {CX : CXT} {k : Nat} {f C : Addr} {fd : FuncData} {ps : List Str} {sp : Sp} {dvs : List V} {ds : List Value} {E : XK} {x m : Str} {p pos apos : Pos} {e o : Expr} {es : List Expr} {ta : TE} {t : TA}

/-- the callee runs -/
theorem run_fn {pins : List (Addr × Obj)} {σ : St} {H : Hp} {s : Shared} {Q : VK} {us : List Value} {vs : List V} (F : FnOk X.prog X.w X.K X.mg X.base CX k f fd ps sp) (hr : Room k X.A) (hb : Binds X.K fd ps ds) (hd : Vals dvs ds) (hx : Passes CX X E)
    (I : Inv X pins σ H s) (r : Vals vs us) (h : sp (vs ++ dvs) H Q E) : wpAny (model X.prog X.w) X.A (call (.ref f) us) (EP X pins σ Q) X.xe s := by
  have r2 : Vals (vs ++ dvs) (us ++ ds) := r.append hd
  have hl : (us ++ ds).length = ps.length := by rw [← r2.length]; exact F.len _ _ _ _ h
  refine wpAny_call (codeAny_mono (F.run X.A X.stack s H ⟨us, []⟩ (us ++ ds) (vs ++ dvs) Q E hr I.env0 (hb s us I.kIn hl) r2 h) fun r s' hq => ?_)
  cases r with
  | error e => exact hx pins σ H s e s' I hq
  | ok fl =>
    cases fl with
    | ret u => exact I.after hq
    | next => exact False.elim hq
    | brk => exact False.elim hq
    | cont => exact False.elim hq

theorem pe_call (F : FnOk X.prog X.w X.K X.mg X.base CX k f fd ps sp) (hr : Room k X.A) (hg : Gl X x) (hm : X.mg x = some (.ref f)) (hk : PySem.W.keepIn X.K (.ref f) = true) (hb : Binds X.K fd ps ds) (hd : Vals dvs ds) (hx : Passes CX X E)
    (ha : PA X (e :: es) t) (hdb : (x == ("__debug__" : Str)) = false := by decide) (he : starEach (e :: es) X.env = (false, eval e X.env) :: starEach es X.env := by rfl) (hpl : (backTo pos (starEach es X.env)).any (·.1) = false := by rfl) :
    PE X (.Call (.Name x p) (e :: es) [] pos) (tCall sp dvs E t) := by
  intro pins s σ H Q I h
  refine wpAny_Call_Name_kw (ld_glob I hg hm ?_ hdb)
  refine PySem.W.callWith_K (h₀ := X.base) I.ok.mod.kin hk (thn (ha pos pins s σ H _ I h) fun us s1 ⟨vs, H1, I1, r, q⟩ => ⟨I1.kIn, ?_⟩) he hpl
  exact run_fn F hr hb hd hx I1 r q


/-- what a class must have to be made -/
structure Mk (K : PySem.W.Frag) (C f : Addr) : Prop where
  makes : PySem.W.makesIn K C = true
  init : PySem.W.findIn K (.ref C) "__init__" = some (some (.ref f))
  fn : PySem.W.isFn K (.ref f) = true
  kp : PySem.W.keepIn K (.ref C) = true

end

/-! ### keywords -/
section
variable {X : Cx} {CX : CXT} {k : Nat} {f C : Addr} {fd : FuncData} {ps ks : List Str} {sp : Sp} {E : XK} {x m : Str} {p pos apos kpos : Pos} {e o : Expr} {es : List Expr} {kws : List Keyword} {te ta : TE} {t tk : TA} {nm : Option Str}

/-- how a call with keywords binds: g puts the positional values us and the keywords' values ws (names ks) in the parameters' order, defaults among them -/
structure KBinds (K : PySem.W.Frag) (fd : FuncData) (ps ks : List Str) (g : List Value → List Value → List Value) (gV : List V → List V → List V) : Prop where
  to : ∀ (s : Shared) (us ws : List Value), K.In s.heap → (g us ws).length = ps.length → BindsTo s fd ⟨us, ks.zip ws⟩ (ps.zip (g us ws))
  rel : ∀ {vs : List V} {us : List Value} {zs : List V} {ws : List Value}, Vals vs us → Vals zs ws → Vals (gV vs zs) (g us ws)
variable {g : List Value → List Value → List Value} {gV : List V → List V → List V}
end

/-! ### a def's body keeps its promise -/
/-- names: the parameters first -/
structure FnScope (N P : List Str) (sc : Scope) : Prop where
  kind : sc.kind = .function
  co : sc.isCoroutine = false
  gen : sc.isGenerator = false
  nd : N.Nodup
  pre : N.take P.length = P
  par : ∀ x ∈ P, sc.names.lookup x = some .local ∨ sc.names.lookup x = some .cell
  nofree : ∀ y ∈ sc.names, y.2 ≠ .free

theorem bindL_out {kindOf : Str → Option NameKind} {x : Str} : ∀ {binds : List (Str × Value)} {m : Str → Option Value}, (∀ v, (x, v) ∉ binds) → bindL kindOf binds m x = m x
  | [], _, _ => rfl
  | (n, v) :: r, m, h => by
    unfold bindL
    rw [bindL_out fun w hw => h w (List.mem_cons_of_mem _ hw)]
    split
    · have : x ≠ n := by rintro rfl; exact h v List.mem_cons_self
      simp [this]
    · rfl
theorem bindC_out {kindOf : Str → Option NameKind} {x : Str} : ∀ {binds : List (Str × Value)} {m : Str → Option Value}, (∀ v, (x, v) ∉ binds) → bindC kindOf binds m x = m x
  | [], _, _ => rfl
  | (n, v) :: r, m, h => by
    unfold bindC
    rw [bindC_out fun w hw => h w (List.mem_cons_of_mem _ hw)]
    split
    · rfl
    · have : x ≠ n := by rintro rfl; exact h v List.mem_cons_self
      simp [this]
theorem bindL_get {kindOf : Str → Option NameKind} {x : Str} {v : Value} : ∀ {P : List Str} {vs : List Value} {i : Nat} {m : Str → Option Value}, P.Nodup → P[i]? = some x → vs[i]? = some v → kindOf x = some .local →
    bindL kindOf (P.zip vs) m x = some v
  | [], _, _, _, _, h, _, _ => by simp at h
  | _ :: _, [], _, _, _, _, h, _ => by simp at h
  | p :: P, w :: vs, 0, m, nd, h1, h2, hk => by
    simp at h1 h2; subst h1; subst h2
    show bindL kindOf ((p, w) :: P.zip vs) m p = _
    unfold bindL
    rw [bindL_out fun v hv => (List.nodup_cons.mp nd).1 (List.of_mem_zip hv).1, if_pos hk]
    simp
  | p :: P, w :: vs, i + 1, m, nd, h1, h2, hk => by
    show bindL kindOf ((p, w) :: P.zip vs) m x = _
    unfold bindL
    exact bindL_get (i := i) (List.nodup_cons.mp nd).2 (by simpa using h1) (by simpa using h2) hk
theorem bindC_get {kindOf : Str → Option NameKind} {x : Str} {v : Value} : ∀ {P : List Str} {vs : List Value} {i : Nat} {m : Str → Option Value}, P.Nodup → P[i]? = some x → vs[i]? = some v → kindOf x ≠ some .local →
    bindC kindOf (P.zip vs) m x = some v
  | [], _, _, _, _, h, _, _ => by simp at h
  | _ :: _, [], _, _, _, _, h, _ => by simp at h
  | p :: P, w :: vs, 0, m, nd, h1, h2, hk => by
    simp at h1 h2; subst h1; subst h2
    show bindC kindOf ((p, w) :: P.zip vs) m p = _
    unfold bindC
    rw [bindC_out fun v hv => (List.nodup_cons.mp nd).1 (List.of_mem_zip hv).1, if_neg hk]
    simp
  | p :: P, w :: vs, i + 1, m, nd, h1, h2, hk => by
    show bindC kindOf ((p, w) :: P.zip vs) m x = _
    unfold bindC
    exact bindC_get (i := i) (List.nodup_cons.mp nd).2 (by simpa using h1) (by simpa using h2) hk

/-- the names' values at the entry -/
def start (N : List Str) (vs : List V) : St := vs.map some ++ List.replicate (N.length - vs.length) none

/-- the context of a def's body, at its entry; an exception leaves the frame, then lies as CX says -/
def cxOf (CX : CXT) (P : Program) (w : World) (K : PySem.W.Frag) (mg : Str → Option Value) (base : Heap) (N : List Str) (qual : Str) (scope : Scope) (f : Addr) (cd : Value) (A : Around) (outer : List Env) (s : Shared) (H : Hp) (E : XK) : Cx where
  prog := P
  w := w
  K := K
  mg := mg
  base := base
  A := A.deeper (envOfC qual scope s.heap.objs.size f cd)
  N := N
  s₀ := s
  H₀ := H
  env := envOfC qual scope s.heap.objs.size f cd
  outer := outer
  stack := envOfC qual scope s.heap.objs.size f cd :: outer
  ex := []
  calm := true
  fn := fun _ => true
  pn := []
  xe := fun e s' => wpAny (model P w) (A.deeper (envOfC qual scope s.heap.objs.size f cd)) (leaving (envOfC qual scope s.heap.objs.size f cd) e) (fun _ s'' => CX outer H s E e s'') (fun e' s'' => CX outer H s E e' s'') s'

theorem cell_has {sc : Scope} {n : Nat} {x : Str} (h : sc.names.lookup x = some .cell) : ∃ c, (cellsFrom n sc.names []).lookup x = some c := by
  have q := PySem.W.cellsFrom_some sc.names n [] (.inl h)
  exact Option.isSome_iff_exists.mp q

theorem inv_start {CX : CXT} {P : Program} {w : World} {K : PySem.W.Frag} {mg : Str → Option Value} {base : Heap} {N ps : List Str} {qual : Str} {scope : Scope} {f : Addr} {cd : Value} {A : Around} {outer : List Env} {s s1 : Shared} {H : Hp} {E : XK} {us : List Value} {vs : List V}
    (S : FnScope N ps scope) (hd : A.handled = none) (e0 : Env0 P w K mg base A outer s H) (hl : vs.length = ps.length) (r : Vals vs us)
    (x : InCallC s s.heap.objs.size (bindL (envOfC qual scope s.heap.objs.size f cd).kindOf (ps.zip us) fun _ => none) (cellsFrom (s.heap.objs.size + 1) scope.names []) (bindC (envOfC qual scope s.heap.objs.size f cd).kindOf (ps.zip us) fun _ => none) s1) :
    Inv (cxOf CX P w K mg base N qual scope f cd A outer s H E) [] (start N vs) H s1 := by
  have hpl : ps.length ≤ N.length := by have := congrArg List.length S.pre; rw [List.length_take] at this; omega
  obtain ⟨h1, tk, rfl, hk⟩ := x.done
  have noA : ∀ b : Addr, b ∉ (cxOf CX P w K mg base N qual scope f cd A outer s H E).ex := fun b z => absurd (show b ∈ ([] : List Addr) from z) (by simp)
  refine ⟨⟨e0.mod, S.kind, rfl, rfl, Nat.le_refl _, fun y z c h1 h2 => ?_, fun y hy => ?_, fun y c _ h => ?_, fun _ => hd, Around.frames_deeper e0.frames, .inr ⟨rfl, rfl⟩, fun b z => absurd z (noA b), e0.bs, e0.bsz, fun b _ _ => noA b, fun b z => absurd z (noA b), e0.funs, e0.frf⟩,
    rfl, e0.bare, Un.kept hk, ⟨_, x.toInCall.ns, fun i y v h1 h2 h3 => ?_⟩, fun y c h => ⟨_, x.cell y c h⟩, e0.hok.fresh (Nat.le_refl _), fun y c h => ?_, fun p hp => absurd (show p ∈ ([] : List (Addr × Obj)) from hp) (by simp), e0.hok.kept hk, ?_⟩
  · exact name_of_addr x.apart (PySem.mem_of_lookup h1) (PySem.mem_of_lookup h2)
  · have hy : scope.names.lookup y = some .cell ∨ scope.names.lookup y = some .free := hy
    rcases hy with hy | hy
    · exact cell_has hy
    · exact absurd rfl (S.nofree _ (PySem.mem_of_lookup hy))
  · exact Nat.le_of_lt (x.above y c (PySem.mem_of_lookup h))
  · have hi : i < vs.length := by
      unfold start at h2
      by_cases hi : i < vs.length
      · exact hi
      · rw [List.getElem?_append_right (by simpa using hi)] at h2
        rw [List.getElem?_replicate] at h2
        split at h2 <;> cases h2
    have ha : vs[i]? = some v := by
      unfold start at h2
      rw [List.getElem?_append_left (by simpa using hi), List.getElem?_map] at h2
      cases e : vs[i]? with
      | none => rw [e] at h2; cases h2
      | some a => rw [e] at h2; cases h2; rfl
    obtain ⟨u, hu, rv⟩ := r.get ha
    have hp : ps[i]? = some y := by
      rw [← S.pre, List.getElem?_take_of_lt (by omega)]; exact h1
    have ndP : ps.Nodup := by rw [← S.pre]; exact S.nd.sublist (List.take_sublist _ _)
    refine ⟨u, rv, ?_⟩
    rcases S.par y (List.mem_of_getElem? hp) with k | k
    · exact .inl ⟨k, bindL_get ndP hp hu k⟩
    · obtain ⟨c, e⟩ := cell_has (n := s.heap.objs.size + 1) k
      refine .inr ⟨.inl k, c, e, ?_⟩
      have q := x.cell y c e
      rw [bindC_get ndP hp hu (by show scope.names.lookup y ≠ _; rw [k]; decide)] at q
      exact q
  · exact e0.hok.fresh (Nat.le_of_lt (x.above y c (PySem.mem_of_lookup h)))
  · unfold start
    show _ = N.length
    rw [List.length_append, List.length_map, List.length_replicate]
    omega

/-- THE RULE: a def (or a method) of the text, by its body. The body's reading t is chosen for each entry; it is run at the parameters' values -/
theorem fn_of {CX : CXT} {P : Program} {w : World} {K : PySem.W.Frag} {mg : Str → Option Value} {base : Heap} {k : Nat} {f : Addr} {name qual : Str} {params : Arguments} {body : List Stmt} {scope : Scope} {dV kV doc pm cdv ct oc : Value} {an od : Option Addr}
    {osl : Array (Option Value)} {N ps : List Str} {sp : Sp} (lk : K.lookup f = some ⟨oc, od, .func (PySem.W.fnOf name qual params body scope dV kV doc pm an cdv ct), osl⟩) (hcd : PySem.W.codeIn K cdv qual = true) (S : FnScope N ps scope)
    (len : ∀ vs H Q E, sp vs H Q E → vs.length = ps.length)
    (hbody : ∀ (A : Around) (outer : List Env) (s : Shared) (H : Hp) (vs : List V) (Q : VK) (E : XK), Room k (A.deeper (envOfC qual scope s.heap.objs.size f cdv)) → sp vs H Q E →
      ∃ t, PSs (cxOf CX P w K mg base N qual scope f cdv A outer s H E) body t ∧ t { nx := fun _ H' => Q .non H', rt := Q } (start N vs) H) :
    FnOk P w K mg base CX (k + 1) f (PySem.W.fnOf name qual params body scope dV kV doc pm an cdv ct) ps sp := by
  refine ⟨len, fun A outer s H args us vs Q E hr e0 hb r hsp => ?_⟩
  have hl := len _ _ _ _ hsp
  have KX : K.In s.heap := e0.mod.kin.keeps fun b o e => (e0.bs b o e).1
  have lim : s.heap.NoLimit := e0.mod.nolimit.keeps fun b o e => (e0.bs b o e).1
  have hkind : ∀ y ∈ ps.zip us, scope.names.lookup y.1 = some .local ∨ (scope.names.lookup y.1 = some .cell ∧ ((cellsFrom (s.heap.objs.size + 1) scope.names []).lookup y.1).isSome = true) := fun ⟨n, v⟩ hy => by
    rcases S.par n (List.of_mem_zip hy).1 with q | q
    · exact .inl q
    · exact .inr ⟨q, PySem.W.cellsFrom_some _ _ _ (.inl q)⟩
  refine codeAny_call_function hr.depth (KX _ _ lk) rfl S.co S.gen rfl (PySem.W.codeRec_of KX hcd) (hb _ _ _ _ ?_)
  refine wpAny_newFunctionEnv_cells S.kind hkind fun env he s1 x => ?_
  subst he
  refine ⟨lim.keeps x.toInCall.keep, codeAny_func ?_⟩
  obtain ⟨t, ht, hq⟩ := hbody A outer s H vs Q E (hr.deeper _) hsp
  have I : Inv (cxOf CX P w K mg base N qual scope f cdv A outer s H E) [] (start N vs) H s1 := inv_start S hr.hd e0 hl r x
  refine wpAny_mono (ht [] s1 (start N vs) H _ I hq) (fun fl s' hs => ?_) fun e s' hs => hs
  have fin : ∀ {σ' : St} {H' : Hp} {v : V} {u : Value}, Inv (cxOf CX P w K mg base N qual scope f cdv A outer s H E) [] σ' H' s' → RelV v u → Q v H' → CE outer P w H s Q u s' :=
    fun {σ' H' v u} J rv q => ⟨v, H', J.os, J.bare, J.base, J.hok, rv, q⟩
  cases fl with
  | ret u =>
    obtain ⟨v, σ', H', J, rv, q⟩ := hs
    exact fin J rv q
  | next =>
    obtain ⟨σ', H', J, q⟩ := hs
    exact fin (v := V.non) (u := Value.none) J rfl q
  | brk =>
    obtain ⟨_, _, _, q⟩ := hs
    exact False.elim q
  | cont =>
    obtain ⟨_, _, _, q⟩ := hs
    exact False.elim q
end L2

namespace L2
open PySem PySem.Spec PyProof.Rows
section
variable {X : Cx} {x : Str} {p pos : Pos} {e : Expr} {es : List Expr} {t : TA} {id T : String} {r : List V → Hp → VK → Prop}

def tCB (r : List V → Hp → VK → Prop) (t : TA) : TE := fun σ H Q => t σ H fun vs H1 => r vs H1 Q
/-- f(e, ..), f a built-in function -/
theorem pe_callB (hc : CallR X (.builtin id) r) (hg : Gl X x) (hm : X.mg x = none) (hv : bootBuiltins x = some (.builtin id)) (ha : PA X (e :: es) t) (hn : x ≠ "__name__" := by decide) (hdb : (x == ("__debug__" : Str)) = false := by decide)
    (he : starEach (e :: es) X.env = (false, eval e X.env) :: starEach es X.env := by rfl) (hpl : (backTo pos (starEach es X.env)).any (·.1) = false := by rfl) : PE X (.Call (.Name x p) (e :: es) [] pos) (tCB r t) := by
  intro pins s σ H Q I h
  refine wpAny_Call_Name_kw (ld_blt I hg hm hv ?_ hn hdb)
  exact PyProof.Rows.callWith_builtin1 (thn (ha pos pins s σ H _ I h) fun us s1 ⟨vs, H1, I1, r1, q1⟩ => hc pins s1 σ H1 vs us Q I1 r1 q1) he hpl
end
end L2

namespace HT
open PySem PyProof.Rows

/-- t < u of tuples of ints -/
def lexLt : List Int → List Int → Bool
  | [], [] => false
  | [], _ :: _ => true
  | _ :: _, [] => false
  | x :: xs, y :: ys => if x = y then lexLt xs ys else decide (x < y)
theorem lexLt_cons (x y : Int) (xs ys : List Int) : lexLt (x :: xs) (y :: ys) = if x = y then lexLt xs ys else decide (x < y) := rfl


section
open PySem.SeqAt
open PySem.AutoSeq1 (wpAny_loadPart')
open PySem.MeetsSeq PySem.MeetsSeq2 PySem.MeetsSeq3

end

section
variable {prog : Program} {w : World} {A : Around} {E : Value → Shared → Prop} {s : Shared}


/-- t + u, t not empty -/
theorem cat_tup {t b : Addr} {vs ws : List Value} {Q : Value → Shared → Prop} (ht : IsTup s.heap t vs.toArray) (hb : IsTup s.heap b ws.toArray) (hv : vs ≠ [])
    (h1 : ws = [] → Q (.ref t) s) (h2 : ws ≠ [] → Q (.ref s.heap.objs.size) { s with heap := s.heap.push { cls := .type "tuple", data := .seq (vs ++ ws).toArray } })
    (hsz : vs.length + ws.length ≤ sizeLine) : wpAny (model prog w) A (binaryOp .Add (.ref t) (.ref b)) Q E s := by
  obtain ⟨⟨cls, dd, data, sl⟩, ho, hc, n, hd⟩ := id ht
  obtain ⟨⟨cls2, dd2, data2, sl2⟩, ho2, hc2, n2, hd2⟩ := id hb
  simp only at hc hd hc2 hd2
  subst hc hd hc2 hd2
  have e : vs.toArray ++ ws.toArray = (vs ++ ws).toArray := by simp
  by_cases hw : ws = []
  · exact concat_meets ⟨_, ho, rfl⟩ ⟨_, ho2, rfl⟩ noFill_tuple_add seq_tuple_add PySem.F.slot_tuple_add PySem.F.entry_tuple_add (PySem.F.args_tuple_add_2 _ _)
      (tuple_addW1 t b vs.toArray ws.toArray n n2 dd dd2 sl sl2 (by simpa using hv) (by simp [hw])) ⟨ho, ho2, h1 hw⟩
  · refine concat_meets ⟨_, ho, rfl⟩ ⟨_, ho2, rfl⟩ noFill_tuple_add seq_tuple_add PySem.F.slot_tuple_add PySem.F.entry_tuple_add (PySem.F.args_tuple_add_2 _ _)
      (tuple_addW2 t b vs.toArray ws.toArray n n2 dd dd2 sl sl2 (by simpa using hv) (by simpa using hw) (by rw [List.size_toArray, List.size_toArray]; exact hsz)) ⟨ho, ho2, ?_⟩
    rw [e]
    exact h2 hw

/-! ### t[a:b], not the whole -/

end
end HT

namespace L2
open PySem PySem.Spec PyProof.Rows

/-! ### the parts of a slice -/
abbrev TO := St → Hp → (Option Int → Hp → Prop) → Prop
/-- a slice's part (left out, or an int) -/
def PO (X : Cx) (e : Option Expr) (t : TO) : Prop :=
  ∀ (pins : List (Addr × Obj)) (s : Shared) (σ : St) (H : Hp) (Q : Option Int → Hp → Prop), Inv X pins σ H s → t σ H Q →
    wpAny (model X.prog X.w) X.A (evalPart e X.env) (fun u s' => ∃ o H', Inv X pins σ H' s' ∧ IsPart u o ∧ Q o H') X.xe s


section
variable {X : Cx} {e : Expr} {te : TE} {lo hi : Option Expr} {tl th : TO} {pos p2 : Pos}


/-- what a slice of a value is, by values: the slice object stands at sl -/
def SlR (X : Cx) (r : V → Option Int → Option Int → Hp → VK → Prop) : Prop :=
  ∀ (pins : List (Addr × Obj)) (s : Shared) (σ : St) (H : Hp) (x : V) (v vl vu : Value) (lo hi : Option Int) (sl : Addr) (Q : VK), Inv X pins σ H s → RelV x v → s.heap.IsSliceOf sl vl vu .none → IsPart vl lo → IsPart vu hi → r x lo hi H Q →
    ∃ T id, typeLookup (.type T) "__getitem__" = pure (some (.builtin id)) ∧ s.TypeIs v T ∧ wpAny (model X.prog X.w) X.A (getItem v (.ref sl)) (EP X pins σ Q) X.xe s
theorem SlR.or {r r' : V → Option Int → Option Int → Hp → VK → Prop} (h : SlR X r) (h' : SlR X r') : SlR X (fun x lo hi H Q => r x lo hi H Q ∨ r' x lo hi H Q) := by
  intro pins s σ H x v vl vu lo hi sl Q I rx hs pl pu q
  rcases q with q | q
  · exact h pins s σ H x v vl vu lo hi sl Q I rx hs pl pu q
  · exact h' pins s σ H x v vl vu lo hi sl Q I rx hs pl pu q


/-! ### t < u, t + u -/
/-- t + u, t not empty: u empty gives t itself -/
def rCatT (K : PySem.W.Frag) : R2 := fun x y H Q => ∃ a b xs ys, x = .ref a ∧ y = .ref b ∧ SqT K H a xs ∧ SqT K H b ys ∧ xs ≠ [] ∧ xs.length + ys.length ≤ sizeLine ∧
  (ys = [] → Q (.ref a) H) ∧ (ys ≠ [] → ∀ p, H p = none → Q (.ref p) (upd H p (.tup (xs ++ ys))))
theorem Vals.nil_iff {xs : List V} {us : List Value} (r : Vals xs us) : us = [] ↔ xs = [] := by
  cases r with
  | nil => simp
  | cons _ _ => simp
theorem op_catT : OpR X (binaryOp .Add) (rCatT X.K) := by
  intro pins s σ H x y v u Q I rx ry h
  obtain ⟨a, b, xs, ys, rfl, rfl, ha, hb, hx, hz, q1, q2⟩ := h
  cases rx
  cases ry
  obtain ⟨its, r1, p1, _⟩ := I.tuple ha
  obtain ⟨its2, r2, p2, _⟩ := I.tuple hb
  refine HT.cat_tup p1 p2 (fun z => hx (r1.nil_iff.mp z)) (fun z => ⟨.ref a, H, I, rfl, q1 (r2.nil_iff.mp z)⟩) (fun z => ?_) (by rw [← r1.length, ← r2.length]; exact hz)
  refine ⟨.ref s.heap.objs.size, _, I.laid (t' := s.toks) (o := .tup (xs ++ ys)) (fun b ob q => Heap.get?_push_of_some _ q) (Nat.le_refl _) ?_, rfl, q2 (fun w => z (r2.nil_iff.mpr w)) _ (I.hok.fresh (Nat.le_refl _))⟩
  exact ⟨by rw [List.length_append]; exact hz, _, r1.append r2, IsTup.new _ _⟩
end
end L2

namespace L2
open PySem PySem.Spec PyProof.Rows

/-! ### places -/
/-- the place that an index of any sign means -/
def ixN (n : Nat) (i : Int) : Option Nat := if 0 ≤ i then (if i < n then some i.toNat else none) else if -(n : Int) ≤ i then some (i + n).toNat else none
def atI {α : Type} (xs : List α) (i : Int) : Option α := (ixN xs.length i).bind fun j => xs[j]?
theorem ixN_seq {n : Nat} {i : Int} {j : Nat} (h : ixN n i = some j) : seqIndex? i n = some j ∧ j < n ∧ -(n : Int) ≤ i ∧ i < n := by
  unfold ixN at h
  by_cases h0 : 0 ≤ i
  · rw [if_pos h0] at h
    by_cases h1 : i < n
    · rw [if_pos h1] at h
      have e : i.toNat = j := Option.some.inj h
      exact ⟨by rw [seqIndex_of h0 h1, e], by omega, by omega, h1⟩
    · rw [if_neg h1] at h; cases h
  · rw [if_neg h0] at h
    by_cases h1 : -(n : Int) ≤ i
    · rw [if_pos h1] at h
      have e : (i + n).toNat = j := Option.some.inj h
      exact ⟨by rw [seqIndex_neg (by omega) h1, e], by omega, h1, by omega⟩
    · rw [if_neg h1] at h; cases h
theorem atI_get {α : Type} {xs : List α} {i : Int} {v : α} (h : atI xs i = some v) : ∃ j, seqIndex? i xs.length = some j ∧ xs[j]? = some v ∧ j < xs.length ∧ -(xs.length : Int) ≤ i ∧ i < xs.length := by
  unfold atI at h
  cases e : ixN xs.length i with
  | none => rw [e] at h; cases h
  | some j =>
    rw [e] at h
    obtain ⟨h1, h2, h3, h4⟩ := ixN_seq e
    exact ⟨j, h1, h, h2, h3, h4⟩
theorem atI_nat {α : Type} {xs : List α} {j : Nat} {v : α} (h : xs[j]? = some v) : atI xs (j : Int) = some v := by
  have hj : j < xs.length := (List.getElem?_eq_some_iff.mp h).1
  have e : ixN xs.length (j : Int) = some j := by
    unfold ixN
    rw [if_pos (by omega), if_pos (by omega)]; simp
  unfold atI; rw [e]; exact h

/-! ### what may be subscripted -/
/-- what stands as an index of a plain subscript -/
def PlainIx (b : Expr) : Prop := ∀ o i, subscripted b false o i = operate [o, i] (getItem o i)
/-- a subscript by values -/
def IxR (X : Cx) (r : R2) : Prop :=
  ∀ (value slice : Expr) (pins : List (Addr × Obj)) (s : Shared) (σ : St) (H : Hp) (x y : V) (v u : Value) (Q : VK), Inv X pins σ H s → RelV x v → RelV y u → r x y H Q →
    subscripted slice false v u = operate [v, u] (getItem v u) → wpAny (model X.prog X.w) X.A (subscriptTail value slice v u) (EP X pins σ Q) X.xe s
/-- a call of a builtin's method by values: the receiver, the arguments -/
def MtR (X : Cx) (id : String) (r : V → List V → Hp → VK → Prop) : Prop :=
  ∀ (pins : List (Addr × Obj)) (s : Shared) (σ : St) (H : Hp) (x : V) (xs : List V) (v : Value) (us : List Value) (Q : VK), Inv X pins σ H s → RelV x v → Vals xs us → r x xs H Q →
    wpAny (model X.prog X.w) X.A (call (.builtin id) (v :: us)) (EP X pins σ Q) X.xe s
section
variable {X : Cx} {a b : Expr} {ta tb : TE} {pos : Pos}
theorem IxR.or {r r' : R2} (h : IxR X r) (h' : IxR X r') : IxR X (fun x y H Q => r x y H Q ∨ r' x y H Q) := by
  intro value slice pins s σ H x y v u Q I rx ry q hs
  rcases q with q | q
  · exact h value slice pins s σ H x y v u Q I rx ry q hs
  · exact h' value slice pins s σ H x y v u Q I rx ry q hs
theorem MtR.or {id : String} {r r' : V → List V → Hp → VK → Prop} (h : MtR X id r) (h' : MtR X id r') : MtR X id (fun x xs H Q => r x xs H Q ∨ r' x xs H Q) := by
  intro pins s σ H x xs v us Q I rx rs q
  rcases q with q | q
  · exact h pins s σ H x xs v us Q I rx rs q
  · exact h' pins s σ H x xs v us Q I rx rs q
/-- a[b] -/
theorem pe_ix {r : R2} (hr : IxR X r) (ha : PE X a ta) (hb : PE X b tb) (hs : PlainIx b) : PE X (.Subscript a b pos) (tOp r ta tb) := by
  intro pins s σ H Q I h
  exact Subscript_ (binT ha hb I h fun v u s2 x y H2 I2 rx ry q => hr a b pins s2 σ H2 x y v u Q I2 rx ry q (hs _ _))

def rIxL (K : PySem.W.Frag) : R2 := fun x y H Q => ∃ p xs i v, x = .ref p ∧ y = .int i ∧ SqL K H p xs ∧ atI xs i = some v ∧ Q v H
def rIxT (K : PySem.W.Frag) : R2 := fun x y H Q => ∃ p xs i v, x = .ref p ∧ y = .int i ∧ SqT K H p xs ∧ atI xs i = some v ∧ Q v H
def rIxS : R2 := fun x y H Q => ∃ z i c, x = .str z ∧ y = .int i ∧ z.length ≤ sizeLine ∧ atI z.cps.toList i = some c ∧ Q (.str ⟨#[c]⟩) H
theorem ix_list : IxR X (rIxL X.K) := by
  intro value slice pins s σ H x y v u Q I rx ry h hs
  obtain ⟨p, xs, i, z, rfl, rfl, hq, he, q⟩ := h
  cases rx
  obtain ⟨t, rfl⟩ := ry
  obtain ⟨its, r, pl, hz⟩ := I.list hq
  obtain ⟨j, h1, h2, h3, h4, h5⟩ := atI_get he
  obtain ⟨w, ew, rw'⟩ := r.get h2
  have hl := r.length
  have hn := line63
  have fin : EP X pins σ Q w s := ⟨z, H, I, rw', q⟩
  by_cases h0 : 0 ≤ i
  · have hj : i.toNat = j := by
      rw [seqIndex_of h0 h5] at h1
      exact Option.some.inj h1
    exact item_listR pl.isList h0 (by omega) (by rw [hj]; simpa using ew) fin hs
  · have hj : (i + (its.toArray.size : Int)).toNat = j := by
      rw [seqIndex_neg (by omega) h4] at h1
      rw [List.size_toArray, ← hl]
      exact Option.some.inj h1
    exact subscriptTail_builtinR (x := w) pl.isList.typeIs slot_list_getitem.lookup
      (wpAny_getItem_list_neg (Q := fun r s' => r = w ∧ EP X pins σ Q r s') pl.isList (by omega) (by rw [List.size_toArray] <;> omega) (by omega) (by rw [hj]; simpa using ew) ⟨rfl, fin⟩) hs
theorem ix_tup : IxR X (rIxT X.K) := by
  intro value slice pins s σ H x y v u Q I rx ry h hs
  obtain ⟨p, xs, i, z, rfl, rfl, hq, he, q⟩ := h
  cases rx
  obtain ⟨t, rfl⟩ := ry
  obtain ⟨its, r, pl, hz⟩ := I.tuple hq
  obtain ⟨j, h1, h2, h3, h4, h5⟩ := atI_get he
  obtain ⟨w, ew, rw'⟩ := r.get h2
  have hl := r.length
  have hn := line63
  have fin : EP X pins σ Q w s := ⟨z, H, I, rw', q⟩
  exact subscriptTail_builtinR (x := w) pl.typeIs slot_tuple_getitem.lookup
    (getItem_tuple (j := j) (Q := fun r s' => r = w ∧ EP X pins σ Q r s') pl (by omega) (by omega) (by rw [List.size_toArray, ← hl]; exact h1) (by simpa using ew) ⟨rfl, fin⟩) hs
theorem ix_str : IxR X rIxS := by
  intro value slice pins s σ H x y v u Q I rx ry h hs
  obtain ⟨z, i, c, rfl, rfl, hz, he, q⟩ := h
  obtain ⟨t, rfl⟩ := rx
  obtain ⟨t', rfl⟩ := ry
  obtain ⟨j, h1, h2, h3, h4, h5⟩ := atI_get he
  have hl : z.cps.toList.length = z.length := by simp [Str.length]
  rw [hl] at h1 h4 h5
  have hn := line63
  exact tail_any (typeIs_str s z t) slot_str_getitem.lookup (getItem_str (c := c) (by
    have e1 : decide (i < -(2 ^ 63 : Int)) = false := decide_eq_false (by omega)
    have e2 : decide (i ≥ 2 ^ 63) = false := decide_eq_false (by omega)
    rw [e1, e2, Bool.or_false]) (by rw [h1]; simpa using h2) ⟨.str ⟨#[c]⟩, H, I.tok _, ⟨_, rfl⟩, q⟩) hs
/-- list, tuple or str -/
def rIx (K : PySem.W.Frag) : R2 := fun x y H Q => rIxL K x y H Q ∨ rIxT K x y H Q ∨ rIxS x y H Q
theorem ix_seq : IxR X (rIx X.K) := ix_list.or (ix_tup.or ix_str)

/-! ### xs[i] = v, any sign -/
theorem Inv.lst {pins : List (Addr × Obj)} {σ : St} {H : Hp} {s : Shared} {p : Addr} {xs : List V} (I : Inv X pins σ H s) (h : H p = some (.lst xs)) :
    ∃ (its : List Value) (n : Nat), Vals xs its ∧ s.heap.get? p = some { cls := .type "list", data := .seq its.toArray n } ∧ xs.length ≤ sizeLine := by
  obtain ⟨z, its, n, r, e⟩ := I.hok p _ h
  exact ⟨its, n, r, e, z⟩

/-! ### slices -/

/-! ### in, not in: flat items -/

/-! ### len, list(x), tuple(x) of any list or tuple that is read -/
theorem CallR.or {f : Value} {r r' : List V → Hp → VK → Prop} (h : CallR X f r) (h' : CallR X f r') : CallR X f (fun xs H Q => r xs H Q ∨ r' xs H Q) := by
  intro pins s σ H xs us Q I rs q
  rcases q with q | q
  · exact h pins s σ H xs us Q I rs q
  · exact h' pins s σ H xs us Q I rs q

/-! ### the call of a builtin's method: o.m(..) -/
variable {o e : Expr} {es : List Expr} {to : TE} {t : TA} {name : Str} {apos cpos : Pos} {T id : String} {r : V → List V → Hp → VK → Prop}
/- xs.append(e), list.index on a module's tuple .. are MtR facts of 06m -/
end
end L2

namespace L2
open PySem PySem.Spec PyProof.Rows


/-! ### lists of values -/
theorem Vals.one : ∀ {x : V} {us : List Value}, Vals [x] us → ∃ u, us = [u] ∧ RelV x u
  | _, _, .cons r .nil => ⟨_, rfl, r⟩
theorem Vals.two : ∀ {x y : V} {us : List Value}, Vals [x, y] us → ∃ u v, us = [u, v] ∧ RelV x u ∧ RelV y v
  | _, _, _, .cons r (.cons q .nil) => ⟨_, _, rfl, r, q⟩
theorem Vals.zero : ∀ {us : List Value}, Vals [] us → us = []
  | _, .nil => rfl

section
variable {X : Cx} {pins : List (Addr × Obj)} {σ : St} {H : Hp} {s : Shared} {l b : Addr} {xs ys zs : List V}

/-! ### the two steps: a tracked list is rewritten, a new list is laid -/
theorem Inv.lnew {its : List Value} {t' : Nat} (I : Inv X pins σ H s) (hv : Vals ys its) (hz : ys.length ≤ sizeLine) :
    Inv X pins σ (upd H s.heap.objs.size (.lst ys)) { s with heap := s.heap.push { cls := .type "list", data := .seq its.toArray }, toks := t' } :=
  I.laid (fun _ _ q => Heap.get?_push_of_some _ q) (Nat.le_refl _) ⟨hz, its, 0, hv, Heap.get?_push_size _ rfl⟩
theorem Inv.fresh (I : Inv X pins σ H s) : H s.heap.objs.size = none := I.hok.fresh (Nat.le_refl _)

end

section
variable {X : Cx}

/-! ### methods -/






/-! ### list + list, list += list, list * int -/
theorem len_rep {α : Type} (xs : List α) (k : Nat) : (List.replicate k xs).flatten.length = k * xs.length := by
  induction k with
  | zero => simp
  | succ k ih => rw [List.replicate_succ, List.flatten_cons, List.length_append, ih, Nat.succ_mul, Nat.add_comm]

/-! ### del xs[i] -/
end

/-! ### xs[a:b] = ys -/
section
variable {prog : Program} {w : World} {A : Around} {E : Value → Shared → Prop} {s : Shared}
end

section
variable {X : Cx}
end
end L2

namespace L2
open PySem PySem.Spec PyProof.Rows

/-! ### lists of pairs as tables -/
section
variable {κ : Type} [DecidableEq κ]
def valV (kvs : List (κ × V)) (k : κ) : Option V := (kvs.find? fun kv => decide (kv.1 = k)).map (·.2)
/-- in its place, or at the end -/
def putK (kvs : List (κ × V)) (k : κ) (v : V) : List (κ × V) :=
  if (kvs.any fun kv => decide (kv.1 = k)) = true then kvs.map (fun kv => if kv.1 = k then (kv.1, v) else kv) else kvs ++ [(k, v)]
def dropK (kvs : List (κ × V)) (k : κ) : List (κ × V) := kvs.filter fun kv => decide (kv.1 ≠ k)

theorem valV_pos {p : κ × V} {r : List (κ × V)} {k : κ} (e : p.1 = k) : valV (p :: r) k = some p.2 := by simp [valV, List.find?_cons, e]
theorem valV_neg {p : κ × V} {r : List (κ × V)} {k : κ} (e : ¬ p.1 = k) : valV (p :: r) k = valV r k := by simp [valV, List.find?_cons, e]

theorem RelO.getD {o : Option V} {u : Option Value} {d : V} {d' : Value} (r : RelO o u) (rd : RelV d d') : RelV (o.getD d) (u.getD d') := by
  cases o with
  | none => cases u with
    | none => exact rd
    | some _ => exact (show False from r).elim
  | some _ => cases u with
    | none => exact (show False from r).elim
    | some _ => exact r

/-- raw tables of the same keys -/
theorem KV.val {kvs : List (κ × V)} {vs : List (κ × Value)} (r : KV kvs vs) (k : κ) : RelO (valV kvs k) (valueAt vs k) := by
  unfold KV at r
  induction r with
  | nil => exact True.intro
  | @cons p q ps qs h t ih =>
    obtain ⟨h1, h2⟩ := h
    by_cases e : p.1 = k
    · have e' : q.1 = k := h1.symm.trans e
      have b : valueAt (q :: qs) k = some q.2 := by simp [valueAt, List.find?_cons, e']
      rw [valV_pos e, b]; exact h2
    · have e' : ¬ q.1 = k := fun z => e (h1.trans z)
      have b : valueAt (q :: qs) k = valueAt qs k := by simp [valueAt, List.find?_cons, e']
      rw [valV_neg e, b]; exact ih
theorem KV.any {kvs : List (κ × V)} {vs : List (κ × Value)} (r : KV kvs vs) (k : κ) : (kvs.any fun kv => decide (kv.1 = k)) = vs.any fun kv => decide (kv.1 = k) := by
  unfold KV at r
  induction r with
  | nil => rfl
  | cons h t ih => rw [List.any_cons, List.any_cons, ih, h.1]
theorem KV.drop {kvs : List (κ × V)} {vs : List (κ × Value)} (r : KV kvs vs) (k : κ) : KV (dropK kvs k) (without vs k) := by
  unfold KV at r ⊢
  unfold dropK without
  induction r with
  | nil => exact .nil
  | @cons p q ps qs h t ih =>
    obtain ⟨h1, h2⟩ := h
    rw [List.filter_cons, List.filter_cons]
    by_cases e : p.1 = k
    · have a : ¬ decide (p.1 ≠ k) = true := by simp [e]
      have b : ¬ decide (q.1 ≠ k) = true := by simp [h1.symm.trans e]
      rw [if_neg a, if_neg b]; exact ih
    · have e' : ¬ q.1 = k := fun z => e (h1.trans z)
      have a : decide (p.1 ≠ k) = true := by simp [e]
      have b : decide (q.1 ≠ k) = true := by simp [e']
      rw [if_pos a, if_pos b]; exact .cons ⟨h1, h2⟩ ih
theorem KV.keys {kvs : List (κ × V)} {vs : List (κ × Value)} (r : KV kvs vs) : kvs.map (·.1) = vs.map (·.1) := by
  unfold KV at r
  induction r with
  | nil => rfl
  | cons h t ih => rw [List.map_cons, List.map_cons, ih, h.1]
theorem KV.length {kvs : List (κ × V)} {vs : List (κ × Value)} (r : KV kvs vs) : kvs.length = vs.length := Paired.length r
end


/-! ### a tracked dict, its keys ints and texts or tuples of these -/

/-- raw entries of a dict with tuple keys -/
abbrev KT (H : Hp) : List (List Key × V) → List (List Key × Addr × Value) → Prop := Paired fun p q => p.1 = q.1 ∧ H q.2.1 = some (.tup (p.1.map kV)) ∧ RelV p.2 q.2.2
theorem KT.val {H : Hp} {kvs : List (List Key × V)} {xs : List (List Key × Addr × Value)} (r : KT H kvs xs) (k : List Key) : RelO (valV kvs k) ((atKey xs k).map (·.2)) := by
  induction r with
  | nil => exact True.intro
  | @cons p q ps qs h t ih =>
    obtain ⟨h1, _, h2⟩ := h
    by_cases e : p.1 = k
    · have e' : q.1 = k := h1.symm.trans e
      have b : atKey (q :: qs) k = some q.2 := by simp [atKey, List.find?_cons, e']
      rw [valV_pos e, b]; exact h2
    · have e' : ¬ q.1 = k := fun z => e (h1.trans z)
      have b : atKey (q :: qs) k = atKey qs k := by simp [atKey, List.find?_cons, e']
      rw [valV_neg e, b]; exact ih
theorem KT.keeps {H H' : Hp} {kvs : List (List Key × V)} {xs : List (List Key × Addr × Value)} (r : KT H kvs xs) (ht : ∀ b ys, H b = some (.tup ys) → H' b = some (.tup ys)) : KT H' kvs xs :=
  Paired.mapP r fun _ _ z => ⟨z.1, ht _ _ z.2.1, z.2.2⟩

section
variable {P : Program} {w : World} {H : Hp} {h : Heap} {a : Addr}
end

/-- what the dict at a holds at the key y -/
def DGet (H : Hp) (a : Addr) (y : V) (r : Option V) : Prop :=
  (∃ kvs k, Rd H a (.dK kvs) ∧ y = kV k ∧ r = valV kvs k) ∨ ∃ kvs k b, Rd H a (.dT kvs) ∧ y = .ref b ∧ H b = some (.tup (k.map kV)) ∧ r = valV kvs k
/-- the heap behind a[y] = v -/
def DPut (H : Hp) (a : Addr) (y v : V) (H' : Hp) : Prop :=
  (∃ kvs k, H a = some (.dK kvs) ∧ y = kV k ∧ kvs.length < sizeLine ∧ H' = upd H a (.dK (putK kvs k v))) ∨
  ∃ kvs k b, H a = some (.dT kvs) ∧ y = .ref b ∧ H b = some (.tup (k.map kV)) ∧ kvs.length < sizeLine ∧ H' = upd H a (.dT (putK kvs k v))
theorem DGet.k {H : Hp} {a : Addr} {kvs : List (Key × V)} {k : Key} (e : H a = some (.dK kvs)) : DGet H a (kV k) (valV kvs k) := .inl ⟨kvs, k, .inl e, rfl, rfl⟩
theorem DGet.t {H : Hp} {a b : Addr} {kvs : List (List Key × V)} {k : List Key} (e : H a = some (.dT kvs)) (eb : H b = some (.tup (k.map kV))) : DGet H a (.ref b) (valV kvs k) := .inr ⟨kvs, k, b, .inl e, rfl, eb, rfl⟩
theorem DPut.k {H : Hp} {a : Addr} {kvs : List (Key × V)} {k : Key} {v : V} (e : H a = some (.dK kvs)) (hl : kvs.length < sizeLine) : DPut H a (kV k) v (upd H a (.dK (putK kvs k v))) := .inl ⟨kvs, k, e, rfl, hl, rfl⟩
theorem DPut.t {H : Hp} {a b : Addr} {kvs : List (List Key × V)} {k : List Key} {v : V} (e : H a = some (.dT kvs)) (eb : H b = some (.tup (k.map kV))) (hl : kvs.length < sizeLine) :
    DPut H a (.ref b) v (upd H a (.dT (putK kvs k v))) := .inr ⟨kvs, k, b, e, rfl, eb, hl, rfl⟩


section
variable {X : Cx} {pins : List (Addr × Obj)} {σ : St} {H : Hp} {s : Shared} {a : Addr} {y v : V} {u r : Value} {o : Option V} {A : Around} {E : Value → Shared → Prop}


end

section
variable {X : Cx} {pins : List (Addr × Obj)} {σ : St} {H : Hp} {s : Shared} {a : Addr} {kvs : List (Key × V)} {k : Key} {u : Value} {A : Around} {E : Value → Shared → Prop}
end


/-! ### readings and rules -/



section
variable {X : Cx} {o i e value : Expr} {pos pos' tpos : Pos} {td ty tv : TE}
end


/-! ### displays -/
section
variable {X : Cx} {pos : Pos}
end

/-- the pairs of a display, from the left -/
def tPairs : List (TE × TE) → St → Hp → (List (V × V) → Hp → Prop) → Prop
  | [], _, H, Q => Q [] H
  | (tk, tv) :: r, σ, H, Q => tk σ H fun x H1 => tv σ H1 fun y H2 => tPairs r σ H2 fun ps H3 => Q ((x, y) :: ps) H3
abbrev VV : List (V × V) → List (Value × Value) → Prop := Paired fun p q => RelV p.1 q.1 ∧ RelV p.2 q.2
def PPs (X : Cx) (pos : Pos) (keys : List (Option Expr)) (values : List Expr) (trs : List (TE × TE)) : Prop :=
  ∀ (pins : List (Addr × Obj)) (s : Shared) (σ : St) (H : Hp) (Q : List (V × V) → Hp → Prop), Inv X pins σ H s → tPairs trs σ H Q →
    wpAny (model X.prog X.w) X.A (evalPairs (pairTrees keys values X.env pos)) (fun vs s' => ∃ ps H', Inv X pins σ H' s' ∧ VV ps vs ∧ Q ps H') X.xe s



/-! ### methods -/
/-- a method call o.m(e) of a built-in, with one argument: what must be seen of the text -/
structure M1 (X : Cx) (o : Expr) (m : Str) (apos : Pos) (e : Expr) (cpos : Pos) : Prop where
  base : attributeBase o m X.env (eval o X.env) = eval o X.env
  few : ((backTo cpos (starEach [e] X.env)).all (fun x => !x.1) && (backToKw cpos (keywordEach [] X.env)).all (fun x => x.1.isSome)
    && decide (([e] : List Expr).length + ([] : List Keyword).length + (if ([] : List Keyword).isEmpty then 0 else 1) < 30)) = true
  line : (apos.endLine == cpos.line) = true
  trees : backTo cpos (starEach [e] X.env) = [(false, eval e X.env)]
structure M2 (X : Cx) (o : Expr) (m : Str) (apos : Pos) (e f : Expr) (cpos : Pos) : Prop where
  base : attributeBase o m X.env (eval o X.env) = eval o X.env
  few : ((backTo cpos (starEach [e, f] X.env)).all (fun x => !x.1) && (backToKw cpos (keywordEach [] X.env)).all (fun x => x.1.isSome)
    && decide (([e, f] : List Expr).length + ([] : List Keyword).length + (if ([] : List Keyword).isEmpty then 0 else 1) < 30)) = true
  line : (apos.endLine == cpos.line) = true
  trees : backTo cpos (starEach [e, f] X.env) = [(false, eval e X.env), (false, eval f X.env)]


section
variable {X : Cx} {pins : List (Addr × Obj)} {σ : St} {H : Hp} {s : Shared} {a : Addr} {y d : V} {u r : Value} {o : Option V} {A : Around} {E : Value → Shared → Prop}
end

section
variable {X : Cx} {o e f : Expr} {apos cpos : Pos} {td ty tx : TE}
end

/-! ### dict(d): a copy -/
section
variable {X : Cx} {pins : List (Addr × Obj)} {σ : St} {H : Hp} {s : Shared} {a : Addr} {kvs : List (Key × V)} {A : Around} {E : Value → Shared → Prop}
end


section
variable {X : Cx} {pins : List (Addr × Obj)} {σ : St} {H : Hp} {s : Shared} {a : Addr} {y : V} {u : Value} {A : Around} {E : Value → Shared → Prop}
end
end L2

namespace Att
open PySem PySem.W PySem.Calls PyProof.Rows

/-! ### the script -/
theorem ints_of_wellAll {P : Params} {h : Heap} : ∀ (ns : List Int) (vs : List Value), WellAll P h vs (ns.map WData.int) → IntsAre vs ns := by
  intro ns
  induction ns with
  | nil =>
    intro vs w
    rw [List.map_nil] at w
    cases w
    exact .nil
  | cons n ns ih =>
    intro vs w
    rw [List.map_cons] at w
    cases w with
    | cons a b =>
      cases a
      exact .cons _ _ (ih _ b)

theorem script_of {l : OpenLaw} {n : Nat} (hn : l.most = some n) {P : Params} {h : Heap} {args : List WData} {vals : List Value}
    (hpre : l.row.toRowW.claim.pre args = true) (hwl : WellAll P h vals args) :
    ∃ a vs ns, vals = [Value.ref a] ∧ args = [WData.list (ns.map WData.int)] ∧ h.get? a = some { cls := .type "list", data := .seq vs.toArray } ∧ IntsAre vs ns ∧ ns.length ≤ n := by
  have hsh : WShape.hasAll [] args [.list .int] = true := (pre_splitW hpre).1
  have hc : l.pre.holds [] { args := args } = true := (pre_splitW hpre).2
  obtain ⟨d, r, rfl, h1, h2⟩ := hasAllW_cons hsh
  obtain rfl := hasAllW_nil h2
  obtain ⟨xs, rfl, h3⟩ := hasW_list h1
  obtain ⟨ns, rfl⟩ := items_int h3
  have hlen : ns.length ≤ n := by
    unfold OpenLaw.pre at hc
    have h4 : (WTm.not (.lt (.lit (.int (n : Int))) (.len (.arg 0)))).holds [] { args := [.list (ns.map .int)] } = true := by
      have h4 := (holds_andW hc).1
      rw [hn] at h4
      exact h4
    have h5 := condW_of h4 (w_not (w_lt w_lit (w_len_list (w_arg rfl))))
    rw [List.length_map] at h5
    refine Nat.le_of_not_lt fun q => ?_
    have q' : (n : Int) < ((ns.length : Nat) : Int) := by omega
    first
      | (rw [decide_eq_true q'] at h5; exact absurd h5 (by decide))
      | (simp at h5; omega)
  cases hwl with
  | cons w1 w2 =>
    cases w2
    cases w1 with
    | list ho hall => exact ⟨_, _, ns, rfl, rfl, ho, ints_of_wellAll ns _ hall, hlen⟩

theorem post_true (l : OpenLaw) (args : List WData) : l.row.toRowW.claim.post args (.bool true) args = true :=
  postW_of (r := l.row.toRowW) (X := (true == true))
    (show WShape.has [] (.bool true) .bool = true by first | rfl | decide | simp [WShape.has, WShape.arms, WShape.armsAll])
    (show (WTm.eq .res (.lit (.bool true))).value [] { args := args, res := some (.bool true), after := args } = some (.bool (true == true)) from w_eq_bool (w_res rfl) w_lit) rfl

/-! ### the attachment: holds_open's last premise (the goal 'hc' behind k_head) from a wpAny of the law's body -/

/-- the same from a codeAny of the CALL (for a layer whose function contracts speak of calls) -/
theorem attach_call {l : OpenLaw} {n : Nat} {q : Program} {loose : List Str} {XP : (Str → Option Value) → Heap → Prop} {YP : World → Heap → Prop} {d : DefRec}
    (hn : l.most = some n) (hdf : d.params.defaults = [])
    (call : ∀ (w : World) (s₀ s₁ : Shared) (mg mb : Str → Option Value) (fa : Addr) (o : Obj) (pm cd doc : Value) (a : Addr) (vs : List Value) (ns : List Int),
      Ground q loose [] XP w s₀ mg mb s₁.heap → YP w s₁.heap →
      s₁.heap.get? fa = some o → o.data = .func (docDef d.name d.params d.body d.scope pm cd doc) → s₁.heap.CodeRec cd d.name → mg d.name = some (.ref fa) →
      s₁.heap.get? a = some { cls := .type "list", data := .seq vs.toArray } → IntsAre vs ns → ns.length ≤ n → s₁.gens = #[] →
      codeAny (model l.prog w) callerA (.call (.ref fa) ⟨[.ref a], []⟩) (fun r s' => r = .ok (.ret (.bool true)) ∧ OldK s₁.heap s'.heap ∧ s'.os = s₁.os ∧ AllBare s'.gens) s₁) :
    WalkO q loose XP YP l.row.toRowW d [] (fun f vs => PySem.call f vs) := by
  intro w s₀ s₁ mg mb G Y fa o pm cd doc dV kV ho hd hcd hD hmg hg args vals as hpre hlay hrd hwl hlo
  obtain rfl : dV = .none := Dflts.none hD hdf
  obtain rfl : kV = .none := Dflts.noKw hD
  obtain ⟨a, vs, ns, rfl, rfl, hobj, hints, hlen⟩ := script_of hn hpre hwl
  refine enter_call (codeAny_mono (call w s₀ s₁ mg mb fa o pm cd doc a vs ns G Y ho (fd_plain hd) hcd hmg hobj hints hlen hg) fun r s' hq => ?_)
  obtain ⟨rfl, h2, h3, h4⟩ := hq
  exact ⟨.inl ⟨.bool true, .bool true, [], rfl, fun _ => rfl, .bool true, post_true l _, fun _ => ⟨List.Pairwise.nil, fun _ hm => (nomatch hm)⟩⟩, h2, h3, h4⟩


/-! ### rules over ANY heap (no ledger) from facts about the written part K: the library's own take a ledger (News) for what they write -/
section
variable {prog : Program} {w : World} {A : Around} {E : Value → Shared → Prop} {s : Shared} {K : Frag}





/-! the whole heap as the ledger: makes every rule that writes through a ledger a rule over any heap -/

end
end Att

namespace L2
open PySem PySem.Spec PyProof.Rows

theorem vals_ints : ∀ {vs : List Value} {ns : List Int}, IntsAre vs ns → Vals (ns.map V.int) vs
  | _, _, .nil => .nil
  | _, _, .cons n t h => .cons ⟨t, rfl⟩ (vals_ints h)

/-- nothing is tracked but the script, known to the object (or it is an object of the module) -/
def Only (H : Hp) : Prop := ∀ b, H b = none ∨ ∃ o xs, H b = some (.frz o (.lst xs))

/-- THE HEAD: the law's promise, at the heap behind the top. F, the promise of the law's def, may use that base is part of the heap (so K.In base, base.Ns mainGlobals mg stand in Mod) -/
theorem law_call {P : Program} {w : World} {K : PySem.W.Frag} {mg mb : Str → Option Value} {CX : CXT} {k : Nat} {fa a : Addr} {fd : FuncData} {x : Str} {sp : Sp} {s₁ : Shared} {vs : List Value} {ns : List Int}
    (KX : K.In s₁.heap) (hns : s₁.heap.Ns mainGlobals mg) (hb : s₁.heap.Ns builtinsNs mb) (hbb : ∀ x : Str, x ≠ "__name__" → mb x = bootBuiltins x) (hlim : s₁.heap.NoLimit) (hsm : ∃ mm, s₁.heap.Ns sysModules mm) (hg : s₁.gens = #[])
    (ha : s₁.heap.get? a = some { cls := .type "list", data := .seq vs.toArray }) (hi : IntsAre vs ns) (hl : ns.length ≤ sizeLine) (hr : Room k callerA)
    (F : ∀ base : Heap, K.In base → base.Ns mainGlobals mg → FnOk P w K mg base CX k fa fd [x] sp) (hbind : ∀ (s : Shared) (u : Value), BindsTo s fd ⟨[u], []⟩ [(x, u)])
    (hsp : ∀ H : Hp, Only H → SqL K H a (ns.map V.int) → sp [.ref a] H (fun v _ => v = .bl true) fun _ _ _ => False)
    (hCX : ∀ H e s', CX [] H s₁ (fun _ _ _ => False) e s' → False) :
    codeAny (model P w) callerA (.call (.ref fa) ⟨[.ref a], []⟩) (fun r s' => r = .ok (.ret (.bool true)) ∧ OldK s₁.heap s'.heap ∧ s'.os = s₁.os ∧ AllBare s'.gens) s₁ := by
  have rv := vals_ints hi
  have lenV := hi.length
  -- from an abstract heap in which nothing but the script may be tracked
  have core : ∀ H : Hp, Only H → SqL K H a (ns.map V.int) → HOk P w H s₁.heap → (∀ b, H b ≠ none → b = a) → (H a ≠ none → K.lookup a = none) →
      codeAny (model P w) callerA (.call (.ref fa) ⟨[.ref a], []⟩) (fun r s' => r = .ok (.ret (.bool true)) ∧ OldK s₁.heap s'.heap ∧ s'.os = s₁.os ∧ AllBare s'.gens) s₁ := by
    intro H hO hS hok hA hK
    have base_of : ∀ {b : Addr} {o : Obj}, s₁.heap.get? b = some o → H b = none → (hidT s₁.heap H).get? b = some o := fun e n => hidT_get e n
    have noA : ∀ {b : Addr} {o : Obj} {es : Array DictEntry} {ep : Nat}, s₁.heap.get? b = some o → o.data = .dict es ep → H b = none := fun {b o es ep} e d => by
      cases q : H b with
      | none => rfl
      | some u =>
        have e' : b = a := hA b (by rw [q]; simp)
        subst e'
        rw [ha] at e; cases e
        have d' : Data.seq vs.toArray _ = Data.dict es ep := d
        cases d'
    have nsK : ∀ {b : Addr} {m : Str → Option Value}, s₁.heap.Ns b m → (hidT s₁.heap H).Ns b m := fun {b m} ⟨o, es, ep, e, d, r⟩ => ⟨o, es, ep, base_of e (noA e d), d, r⟩
    have hKb : K.In (hidT s₁.heap H) := fun b o e => base_of (KX b o e) (by
      cases q : H b with
      | none => rfl
      | some u =>
        have e' : b = a := hA b (by rw [q]; simp)
        subst e'
        rw [hK (by rw [q]; simp)] at e; cases e)
    have hM : Mod K mg (hidT s₁.heap H) := ⟨hKb, nsK hns, ⟨mb, nsK hb, hbb⟩, (let ⟨mc, h1, h2⟩ := hlim; ⟨mc, nsK h1, h2⟩), (let ⟨mm, hmm⟩ := hsm; let ⟨o, es, ep, h1, h2, _⟩ := nsK hmm; ⟨o, es, ep, h1, h2⟩)⟩
    have e0 : Env0 P w K mg (hidT s₁.heap H) callerA [] s₁ H := ⟨rfl, hM, fun b o e => of_hidT e, Nat.le_of_eq (hidT_size _ _), trivial, fun b hb => absurd (show b ∈ ([] : List Addr) from hb) (by simp), hok, .of_eq hg⟩
    refine codeAny_mono ((F _ hKb (nsK hns)).run callerA [] s₁ H ⟨[.ref a], []⟩ [.ref a] [.ref a] _ _ hr e0 (hbind s₁ (.ref a)) (.cons rfl .nil) (hsp H hO hS)) fun r s' h => ?_
    cases r with
    | error e => exact (hCX H e s' h).elim
    | ok fl =>
      cases fl with
      | next => exact False.elim h
      | brk => exact False.elim h
      | cont => exact False.elim h
      | ret u =>
        obtain ⟨v, H', os, bare, un, hok', r', q⟩ := h
        have q' : v = .bl true := q
        subst q'
        obtain rfl : u = Value.bool true := r'
        refine ⟨rfl, OldK.of_keep fun b o e => ?_, os, bare⟩
        cases q : H b with
        | none => exact un.keep b o e q (by intro z; exact absurd (show b ∈ ([] : List Addr) from z) (by simp)) (by simp)
        | some u =>
          rcases hO b with z | ⟨ob, xs, z⟩
          · rw [q] at z; cases z
          · have z2 := un.frzs b ob _ z
            obtain ⟨e1, _⟩ := hok b _ z
            obtain ⟨e2, _⟩ := hok' b _ z2
            rw [e] at e1; cases e1
            exact e2
  cases hk : K.lookup a with
  | some o =>
    -- the script is one of the module's own objects
    have e := KX a o hk
    rw [ha] at e
    cases e
    refine core (fun _ => none) (fun _ => .inl rfl) (.inr ⟨_, vs.toArray, _, hk, rfl, rfl, rfl, by rw [List.size_toArray, lenV]; exact hl, by simpa using rv⟩) (fun b u z => by have z' : (none : Option HO) = some u := z; cases z') (fun b z => absurd rfl z) fun z => absurd rfl z
  | none =>
    refine core (fun b => if b = a then some (.frz { cls := .type "list", data := .seq vs.toArray } (.lst (ns.map V.int))) else none) (fun b => ?_) (.inl (.inr ⟨{ cls := .type "list", data := .seq vs.toArray }, if_pos rfl⟩)) (fun b u z => ?_) (fun b z => ?_) fun _ => hk
    · by_cases hb : b = a
      · exact .inr ⟨_, _, if_pos hb⟩
      · exact .inl (if_neg hb)
    · by_cases hb : b = a
      · have z' := (if_pos hb).symm.trans z
        cases z'
        subst hb
        exact ⟨ha, by rw [List.length_map]; exact hl, vs, _, rv, ha⟩
      · have z' := (if_neg hb).symm.trans z
        cases z'
    · by_cases hb : b = a
      · exact hb
      · exact absurd (if_neg hb) z
end L2

namespace L2
open PySem PySem.Spec PyProof.Rows

abbrev KOf {K : PySem.W.Frag} {h : Heap} (_ : K.In h) : PySem.W.Frag := K

/-- the goal that k_head leaves (case hc), from the law's promise. F gives the function object fd (K's own) once, then the promise over every base -/
theorem walk_of {l : PySem.W.OpenLaw} {n k : Nat} {q : Program} (hq : PyProof.Rows.importsNone q = true) {loose : List Str} {XP : (Str → Option Value) → Heap → Prop} {YP : World → Heap → Prop} {d : DefRec} {K : Params → PySem.W.Frag} {CX : World → CXT} {sp : World → Sp} {x : Str}
    (hn : l.most = some n) (hn2 : n ≤ sizeLine) (hdf : d.params.defaults = []) (hr : Room k callerA)
    (hY : ∀ (w : World) (h : Heap), YP w h → (K w.params).In h)
    (F : ∀ (w : World) (mg : Str → Option Value) (fa : Addr) (h : Heap), (K w.params).In h → h.Ns mainGlobals mg → mg d.name = some (.ref fa) →
      ∃ fd : FuncData, (∀ (s : Shared) (u : Value), BindsTo s fd ⟨[u], []⟩ [(x, u)]) ∧
        ∀ base : Heap, (K w.params).In base → base.Ns mainGlobals mg → FnOk l.prog w (K w.params) mg base (CX w) k fa fd [x] (sp w))
    (hsp : ∀ (w : World) (H : Hp) (a : Addr) (ns : List Int), ns.length ≤ n → Only H → SqL (K w.params) H a (ns.map V.int) → sp w [.ref a] H (fun v _ => v = .bl true) fun _ _ _ => False)
    (hCX : ∀ (w : World) (H : Hp) (s : Shared) (e : Value) (s' : Shared), CX w [] H s (fun _ _ _ => False) e s' → False) :
    PySem.W.WalkO q loose XP YP l.row.toRowW d [] (fun f vs => PySem.call f vs) := by
  refine Att.attach_call hn hdf fun w s₀ s₁ mg mb fa o pm cd doc a vs ns G Y ho hd hcd hmg hobj hints hlen hg => ?_
  have KX := hY w _ Y
  obtain ⟨fd, hb, hF⟩ := F w mg fa _ KX G.T.g hmg
  exact law_call KX G.T.g G.T.b G.T.builtins G.T.nolimit (let ⟨mm, hmm, _⟩ := (G.T.seer hq).mods; ⟨mm, hmm⟩) hg hobj hints (Nat.le_trans hlen hn2) hr hF hb (fun H hO hS => hsp w H a ns hlen hO hS) fun H e s' => hCX w H s₁ e s'
end L2

/- THE LAST THEOREM (shape; LID, My.* are yours):
   My.Adr: a structure of the addresses that your layer names (classes, functions); My.Txt K t: a structure (Prop) of the equations over K;
   My.txt_mk : {K} {implicit addresses ..} (e1 : nsIn K mainGlobals "law" = some (some (.ref f))) (e2 : K.lookup f = some ⟨oc, od, .func (fnOf "law" "law" params body scope dV kV doc pm an cdv ct), sl⟩) (e3 : codeIn K cdv "law" = true) .. : ∃ t, My.Txt K t

set_option maxRecDepth 100000 in
set_option maxHeartbeats 0 in
theorem PySem.Challenge.cw_LID_holds : PySem.Challenge.rw_LID.Holds := by
  w_on; o_law; k_head; (case hw => w_witness2)
  k_fill
  refine L2.walk_of (l := PySem.Challenge.rw_LID) (n := 63) (k := 40) (x := "script") (CX := fun w => ..) (sp := fun _ => My.sp_law) rfl (by decide) rfl ⟨rfl, by decide, by decide⟩ (fun w h Y => PySem.W.kIn_of Y) ?F ?S ?C
  case F =>
    intro w mg fa h KX G hmg
    have T : ∃ t, My.Txt (L2.KOf KX) t := by
      dsimp only [L2.KOf]                          -- K must stand as «<heap const> w.params» for k_is
      refine' My.txt_mk ?e1 ?e2 ?e3 ..
      (case e1 => PySem.W.k_is)                    -- in the order: a name -> its address -> its object -> its parts
      (case e2 => PySem.W.k_is)
      ..
    obtain ⟨t, T⟩ := T
    have e0 := hmg.symm.trans (PySem.W.mg_of KX G T.law)
    cases e0                                       -- fa is the law's own address
    exact ⟨_, fun s u => .of_eq rfl, fun base kb nb => My.law_fn T kb nb⟩     -- if «.of_eq rfl» comes too early: refine' ⟨_, ?b, fun base kb nb => My.law_fn T kb nb⟩; exact fun s u => .of_eq rfl
  case S => exact fun w H a ns hl hO hS => ..
  case C => exact ..
(the tactic k_is has no namespace: write k_is) -/

/-! SHORT WORDS over the layer: a def of the text, its body, what a loop and a test want. -/
namespace L2
open PySem PySem.Spec PyProof.Rows

/-! ### the text by places -/
/-- the j-th statement of a class's body -/
def inClass (s : Stmt) (j : Nat) : Stmt := match s with
  | .ClassDef _ _ _ body _ _ _ _ _ _ _ => body.getD j (.Pass ⟨0, 0, 0, 0⟩)
  | _ => .Pass ⟨0, 0, 0, 0⟩
def defArgs (s : Stmt) : Arguments := match s with
  | .FunctionDef _ a _ _ _ _ _ _ _ _ => a
  | _ => { posonlyargs := [], args := [], vararg := none, kwonlyargs := [], kw_defaults := [], kwarg := none, defaults := [] }
def defBody (s : Stmt) : List Stmt := match s with
  | .FunctionDef _ _ b _ _ _ _ _ _ _ => b
  | _ => []
def defScope (s : Stmt) : Scope := match s with
  | .FunctionDef _ _ _ _ _ _ sc _ _ _ => sc
  | _ => { kind := .function, names := [], isGenerator := false, isCoroutine := false }

/-! ### no exception leaves a def -/
abbrev CX0 : CXT := fun _ _ _ _ _ _ => False
abbrev E0 : XK := fun _ _ _ => False
theorem pass0 {X : Cx} : Passes CX0 X E0 := fun _ _ _ _ _ _ _ h => h.elim

/-! ### a def (or method) of the text as it stands behind the top -/
structure Fun (K : PySem.W.Frag) (x qual : Str) (st : Stmt) (f : Addr) (fd : FuncData) : Prop where
  ex : ∃ (oc : Value) (od : Option Addr) (kV doc pm : Value) (an : Option Addr) (cdv ct : Value) (osl : Array (Option Value)),
    fd = PySem.W.fnOf x qual (defArgs st) (defBody st) (defScope st) .none kV doc pm an cdv ct ∧ K.lookup f = some ⟨oc, od, .func fd, osl⟩ ∧ PySem.W.codeIn K cdv qual = true
  kp : PySem.W.keepIn K (.ref f) = true
section
variable {P : Program} {w : World} {K : PySem.W.Frag} {mg : Str → Option Value} {base : Heap}
/-- THE RULE for a def: its body as a term of rules, and the reading of that term -/
theorem Fun.ok {x qual : Str} {st : Stmt} {f : Addr} {fd : FuncData} {N ps : List Str} {k : Nat} {sp : Sp} (F : Fun K x qual st f fd) (S : FnScope N ps (defScope st)) (len : ∀ vs H Q E, sp vs H Q E → vs.length = ps.length)
    (hbody : ∀ (cdv : Value) (A : Around) (outer : List Env) (s : Shared) (H : Hp) (vs : List V) (Q : VK) (E : XK), Room k (A.deeper (envOfC qual (defScope st) s.heap.objs.size f cdv)) → sp vs H Q E →
      ∃ t, PSs (cxOf CX0 P w K mg base N qual (defScope st) f cdv A outer s H E).nox (defBody st) t ∧ t { nx := fun _ H' => Q .non H', rt := Q } (start N vs) H) : FnOk P w K mg base CX0 (k + 1) f fd ps sp := by
  obtain ⟨oc, od, kV, doc, pm, an, cdv, ct, osl, rfl, lk, hcd⟩ := F.ex
  refine fn_of lk hcd S len fun A outer s H vs Q E hr hsp => ?_
  obtain ⟨t, h, q⟩ := hbody cdv A outer s H vs Q E hr hsp
  exact ⟨t, h.nox, q⟩
/-- how its arguments bind (no defaults): h is «fun _ _ _ _ _ _ us hl => match us, hl with | [_, _], _ => rfl», one _ a parameter -/
theorem Fun.binds {x qual : Str} {st : Stmt} {f : Addr} {fd : FuncData} {ps : List Str} (F : Fun K x qual st f fd)
    (h : ∀ (kV doc pm : Value) (an : Option Addr) (cdv ct : Value) (us : List Value), us.length = ps.length → bindArgs (PySem.W.fnOf x qual (defArgs st) (defBody st) (defScope st) .none kV doc pm an cdv ct) ⟨us, []⟩ = pure (ps.zip us)) : Binds K fd ps [] := by
  obtain ⟨oc, od, kV, doc, pm, an, cdv, ct, osl, rfl, lk, hcd⟩ := F.ex
  exact .all (h kV doc pm an cdv ct)
theorem fun_mk {x qual : Str} {st : Stmt} {f : Addr} {oc : Value} {od an : Option Addr} {osl : Array (Option Value)} {kV doc pm cdv ct : Value} (l : K.lookup f = some ⟨oc, od, .func (PySem.W.fnOf x qual (defArgs st) (defBody st) (defScope st) .none kV doc pm an cdv ct), osl⟩)
    (c : PySem.W.codeIn K cdv qual = true) (k : PySem.W.keepIn K (.ref f) = true) : Fun K x qual st f (PySem.W.fnOf x qual (defArgs st) (defBody st) (defScope st) .none kV doc pm an cdv ct) := ⟨⟨oc, od, kV, doc, pm, an, cdv, ct, osl, rfl, l, c⟩, k⟩
end

/-! ### expressions in short: the name that stands in the i-th slot -/
section
variable {X : Cx}
end

/-! ### tests -/

/-! ### heaps -/
/-- all that was tracked is as it was -/
def Same (H H' : Hp) : Prop := ∀ b o, H b = some o → H' b = some o
theorem Same.refl (H : Hp) : Same H H := fun _ _ h => h
theorem Same.trans {H H1 H2 : Hp} (a : Same H H1) (b : Same H1 H2) : Same H H2 := fun c o h => b c o (a c o h)
theorem Same.free {H H' : Hp} (e : Same H H') {l : Addr} (h : H' l = Option.none) : H l = Option.none := by
  cases q : H l with
  | none => rfl
  | some o =>
    rw [e l o q] at h
    cases h
theorem Same.seq {K : PySem.W.Frag} {H H' : Hp} {a : Addr} {xs : List V} (e : Same H H') (h : SqL K H a xs) : SqL K H' a xs := by
  rcases h with (h | ⟨o, h⟩) | h
  · exact .inl (.inl (e _ _ h))
  · exact .inl (.inr ⟨o, e _ _ h⟩)
  · exact .inr h

/-! ### a dict's pairs: keys that differ -/
section
variable {κ : Type} [DecidableEq κ]
end
end L2

end

section
set_option Elab.async false
set_option linter.all false
set_option maxRecDepth 100000
set_option maxHeartbeats 4000000
namespace L2
open PySem PySem.Spec PyProof.Rows

/-! ## a comprehension's cells -/
def closeOf (env : Env) : List (Str × NameKind) → List (Str × Addr) → List (Str × Addr)
  | [], cs => cs
  | y :: r, cs => closeOf env r (if (y.2 == NameKind.free) = true then (y.1, (env.cells.lookup y.1).getD 0) :: cs else cs)

theorem closure_go {env : Env} : ∀ (l : List (Str × NameKind)) (cs : List (Str × Addr)), (∀ y ∈ l, y.2 = .free → ∃ c, env.cells.lookup y.1 = some c) →
    (forIn l cs fun (x : Str × NameKind) (r : List (Str × Addr)) => if (x.2 == NameKind.free) = true then (do
      let a ← cellOf env x.1
      pure (ForInStep.yield ((x.1, a) :: r))) else pure (ForInStep.yield r)) = (pure (closeOf env l cs) : Sem (List (Str × Addr)))
  | [], cs, _ => rfl
  | y :: l, cs, h => by
    rw [List.forIn_cons]
    by_cases hk : (y.2 == NameKind.free) = true
    · obtain ⟨c, hc⟩ := h y List.mem_cons_self (by simpa using hk)
      have e1 : cellOf env y.1 = pure c := by unfold cellOf; rw [hc]
      rw [if_pos hk, e1]
      show (forIn l ((y.1, c) :: cs) _ : Sem _) = _
      rw [closure_go l _ fun z hz => h z (List.mem_cons_of_mem _ hz)]
      conv => rhs; unfold closeOf
      rw [if_pos hk, hc]
      rfl
    · rw [if_neg hk]
      show (forIn l cs _ : Sem _) = _
      rw [closure_go l _ fun z hz => h z (List.mem_cons_of_mem _ hz)]
      conv => rhs; unfold closeOf
      rw [if_neg hk]
theorem closure_eq {scope : Scope} {env : Env} (h : ∀ y ∈ scope.names, y.2 = .free → ∃ c, env.cells.lookup y.1 = some c) : closureFor scope env = pure (closeOf env scope.names []) := by
  have e := closure_go (env := env) scope.names [] h
  unfold closureFor
  show ((forIn scope.names ([] : List (Str × Addr)) fun (x : Str × NameKind) (r : List (Str × Addr)) => if (x.2 == NameKind.free) = true then (do
      let a ← cellOf env x.1
      pure (ForInStep.yield ((x.1, a) :: r))) else pure (ForInStep.yield r)) >>= fun z => pure z : Sem (List (Str × Addr))) = _
  rw [e]
  rfl
theorem close_sub {env : Env} : ∀ (l : List (Str × NameKind)) (cs : List (Str × Addr)), (∀ y ∈ l, y.2 = .free → ∃ c, env.cells.lookup y.1 = some c) → (∀ x c, cs.lookup x = some c → env.cells.lookup x = some c) →
    ∀ x c, (closeOf env l cs).lookup x = some c → env.cells.lookup x = some c
  | [], cs, _, h, x, c, e => h x c e
  | y :: l, cs, hf, h, x, c, e => by
    unfold closeOf at e
    refine close_sub l _ (fun z hz => hf z (List.mem_cons_of_mem _ hz)) ?_ x c e
    intro z d ez
    by_cases hk : (y.2 == NameKind.free) = true
    · rw [if_pos hk] at ez
      obtain ⟨c', hc'⟩ := hf y List.mem_cons_self (by simpa using hk)
      rw [hc'] at ez
      rw [List.lookup_cons] at ez
      by_cases hz : (z == y.1) = true
      · rw [hz] at ez
        have hz' : z = y.1 := by simpa using hz
        rw [hz', hc']
        exact ez
      · have hz' : (z == y.1) = false := by simpa using hz
        rw [hz'] at ez
        exact h z d ez
    · rw [if_neg hk] at ez
      exact h z d ez
theorem close_has {env : Env} : ∀ (l : List (Str × NameKind)) (cs : List (Str × Addr)) (x : Str), ((x, NameKind.free) ∈ l ∨ ∃ c, cs.lookup x = some c) → ∃ c, (closeOf env l cs).lookup x = some c
  | [], cs, x, h => by
    rcases h with h | h
    · exact absurd h (by simp)
    · exact h
  | y :: l, cs, x, h => by
    unfold closeOf
    refine close_has l _ x ?_
    rcases h with h | ⟨c, hc⟩
    · rcases List.mem_cons.mp h with e | e
      · subst e
        refine .inr ?_
        rw [if_pos (by rfl)]
        exact ⟨(env.cells.lookup x).getD 0, by rw [List.lookup_cons]; simp⟩
      · exact .inl e
    · refine .inr ?_
      by_cases hk : (y.2 == NameKind.free) = true
      · rw [if_pos hk, List.lookup_cons]
        by_cases hz : (x == y.1) = true
        · rw [hz]; exact ⟨_, rfl⟩
        · have hz' : (x == y.1) = false := by simpa using hz
          rw [hz']; exact ⟨c, hc⟩
      · rw [if_neg hk]; exact ⟨c, hc⟩

theorem relabel_of {env : Env} : ∀ {names : List (Str × NameKind)} {x : Str} {k : NameKind},
    (names.map fun (y : Str × NameKind) => if (y.2 == NameKind.free && env.scope.kind == .function && env.kindOf y.1 == some .cell) = true then (y.1, NameKind.cell) else (y.1, y.2)).lookup x = some k →
    (names.lookup x = some k) ∨ (names.lookup x = some .free ∧ k = .cell)
  | [], x, k, h => by simp at h
  | y :: r, x, k, h => by
    rw [List.map_cons] at h
    by_cases hx : (x == y.1) = true
    · by_cases hc : (y.2 == NameKind.free && env.scope.kind == .function && env.kindOf y.1 == some .cell) = true
      · rw [if_pos hc, List.lookup_cons, hx] at h
        rw [List.lookup_cons, hx]
        have : y.2 = .free := by simp at hc; exact hc.1.1
        refine .inr ⟨by rw [this], ?_⟩
        cases h; rfl
      · rw [if_neg hc, List.lookup_cons, hx] at h
        rw [List.lookup_cons, hx]
        exact .inl h
    · have hx' : (x == y.1) = false := by simpa using hx
      have h' : (r.map fun (y : Str × NameKind) => if (y.2 == NameKind.free && env.scope.kind == .function && env.kindOf y.1 == some .cell) = true then (y.1, NameKind.cell) else (y.1, y.2)).lookup x = some k := by
        by_cases hc : (y.2 == NameKind.free && env.scope.kind == .function && env.kindOf y.1 == some .cell) = true
        · rw [if_pos hc, List.lookup_cons, hx'] at h; exact h
        · rw [if_neg hc, List.lookup_cons, hx'] at h; exact h
      rw [List.lookup_cons, hx']
      exact relabel_of h'
theorem of_relabel {env : Env} : ∀ {names : List (Str × NameKind)} {x : Str}, names.lookup x = some .free →
    (names.map fun (y : Str × NameKind) => if (y.2 == NameKind.free && env.scope.kind == .function && env.kindOf y.1 == some .cell) = true then (y.1, NameKind.cell) else (y.1, y.2)).lookup x = some .cell ∨
    (names.map fun (y : Str × NameKind) => if (y.2 == NameKind.free && env.scope.kind == .function && env.kindOf y.1 == some .cell) = true then (y.1, NameKind.cell) else (y.1, y.2)).lookup x = some .free
  | [], x, h => by simp at h
  | y :: r, x, h => by
    rw [List.map_cons]
    by_cases hx : (x == y.1) = true
    · rw [List.lookup_cons, hx] at h
      have hy : y.2 = .free := Option.some.inj h
      by_cases hc : (y.2 == NameKind.free && env.scope.kind == .function && env.kindOf y.1 == some .cell) = true
      · rw [if_pos hc, List.lookup_cons, hx]; exact .inl rfl
      · rw [if_neg hc, List.lookup_cons, hx]; exact .inr (by rw [hy])
    · have hx' : (x == y.1) = false := by simpa using hx
      rw [List.lookup_cons, hx'] at h
      have ih := of_relabel (env := env) h
      by_cases hc : (y.2 == NameKind.free && env.scope.kind == .function && env.kindOf y.1 == some .cell) = true
      · rw [if_pos hc, List.lookup_cons, hx']; exact ih
      · rw [if_neg hc, List.lookup_cons, hx']; exact ih
end L2

end

section
set_option Elab.async false
set_option linter.all false
set_option maxRecDepth 100000
set_option maxHeartbeats 4000000
namespace L2
open PySem PySem.Spec PyProof.Rows

/-! ## list comprehensions -/
/-- the tests of a clause -/
def PIfs (X : Cx) (ifs : List Expr) (t : TT) : Prop :=
  ∀ (pins : List (Addr × Obj)) (s : Shared) (σ : St) (H : Hp) (Q : Bool → Hp → Prop), Inv X pins σ H s → t σ H Q →
    wpAny (model X.prog X.w) X.A (forIn ifs true fun c r => if r = true then (do
      let ok ← isTrue c X.env (eval c X.env)
      pure (ForInStep.yield ok)) else pure (ForInStep.yield r)) (TP X pins σ Q) X.xe s
def tYes : TT := fun _ H Q => Q true H
theorem pifs_nil {X : Cx} : PIfs X [] tYes := fun _ _ _ H _ I h => wpAny_tests_nil ⟨H, I, h⟩

section
variable {prog : Program} {w : World} {A : Around} {R : Result → Shared → Prop} {s : Shared}
/-- the loop, no exception leaving it -/
theorem lc_loop {elt target iter : Expr} {ifs : List Expr} {scope : Scope} {pos : Pos} {it acc : Value} {env : Env} (I : Nat → Shared → Prop)
    (turn : ∀ n s, I n s → wpAny (model prog w) A (pyNext it) (fun r s1 => (r = none ∧ R (.ok .next) s1) ∨ ∃ v, r = some v ∧
      wpAny (model prog w) A (letOwnedTupleGo target it v) (fun _ s2 => wpAny (model prog w) A (assign target env v) (fun _ s3 =>
        wpAny (model prog w) A (forIn ifs true fun c r => if r = true then (do
          let ok ← isTrue c env (eval c env)
          pure (ForInStep.yield ok)) else pure (ForInStep.yield r)) (fun ok s4 =>
            (ok = true ∧ wpAny (model prog w) A (eval elt env) (fun x s5 => wpAny (model prog w) A (call (.builtin "list.append") [acc, x]) (fun _ s6 => ∃ m, m < n ∧ I m s6) (fun _ _ => False) s5) (fun _ _ => False) s4) ∨
            (ok = false ∧ ∃ m, m < n ∧ I m s4)) (fun _ _ => False) s3) (fun _ _ => False) s2) (fun _ _ => False) s1) (fun _ _ => False) s)
    (n : Nat) (h : I n s) : codeAny (model prog w) A (.compLoop (.ListComp elt [⟨target, iter, ifs, 0⟩] scope pos) 0 it acc env) R s := by
  refine codeAny_loop rfl I (fun n s hI => ?_) n h
  show wpAny _ A ((compTurn (.ListComp elt [⟨target, iter, ifs, 0⟩] scope pos) 0 it acc env).onRaise fun x => do
    noteFrame x env
    theTreesLotGoes x) _ _ s
  refine wpAny_noted ?_
  rw [compTurn_list]
  refine wpAny_bind (wpAny_standAt (wpAny_bind (wpAny_mono (turn n s hI) (fun r s1 h1 => ?_) fun _ _ f => f.elim)))
  rcases h1 with ⟨rfl, h1⟩ | ⟨v, rfl, h1⟩
  · exact wpAny_pure h1
  · refine wpAny_bind (wpAny_mono h1 (fun _ s2 h2 => ?_) fun _ _ f => f.elim)
    refine wpAny_bind (wpAny_mono h2 (fun _ s3 h3 => ?_) fun _ _ f => f.elim)
    refine wpAny_bind (wpAny_mono h3 (fun ok s4 h4 => ?_) fun _ _ f => f.elim)
    rcases h4 with ⟨rfl, h4⟩ | ⟨rfl, h4⟩
    · refine wpAny_bind (wpAny_bind (wpAny_mono h4 (fun x s5 h5 => ?_) fun _ _ f => f.elim))
      exact wpAny_bind (wpAny_mono h5 (fun _ s6 h6 => wpAny_pure (wpAny_pure ⟨rfl, h6⟩)) fun _ _ f => f.elim)
    · exact wpAny_pure ⟨rfl, h4⟩
end

/-- the context of a comprehension's block -/
def lcCx (X : Cx) (N' : List Str) (scope : Scope) (C : Addr) (s2 : Shared) (H2 : Hp) (fp : List Addr) (pn : List (Addr × Obj)) : Cx :=
  { X with N := N', s₀ := s2, H₀ := H2, env := compEnvC scope (closeOf X.env scope.names []) C X.env, outer := X.stack, stack := X.stack, ex := fp, fn := fun _ => false, pn := X.pn ++ pn, xe := fun _ _ => False }
/-- the values of the names that the block sees -/
def capS (cap : List (Option Nat)) (σ : St) : St := cap.map fun o => o.bind fun j => (σ[j]?).join
/-- what of the text a comprehension must have; cap: for each of its names where it stands around, if it is caught -/
structure LcSc (X : Cx) (N' : List Str) (cap : List (Option Nat)) (scope : Scope) : Prop where
  nocell : ∀ y ∈ scope.names, y.2 ≠ .cell
  kind : scope.kind = .function
  names : ∀ y ∈ scope.names, y.2 = .local → scope.names.lookup y.1 = some .local
  frees : ∀ y ∈ scope.names, y.2 = .free → X.env.kindOf y.1 = some .cell ∨ X.env.kindOf y.1 = some .free
  len : cap.length = N'.length
  cap : ∀ (i j : Nat), cap[i]? = some (some j) → ∃ x, N'[i]? = some x ∧ X.N[j]? = some x ∧ scope.names.lookup x = some .free

section
variable {X : Cx} {N' : List Str} {cap : List (Option Nat)} {scope : Scope} {pins : List (Addr × Obj)} {σ : St} {H : Hp} {s : Shared}
theorem LcSc.cells (S : LcSc X N' cap scope) (ok : X.Ok) : ∀ y ∈ scope.names, y.2 = .free → ∃ c, X.env.cells.lookup y.1 = some c := fun y hy hk => ok.has y.1 (S.frees y hy hk)
theorem LcSc.sub (S : LcSc X N' cap scope) (ok : X.Ok) : ∀ x c, (closeOf X.env scope.names []).lookup x = some c → X.env.cells.lookup x = some c :=
  close_sub scope.names [] (S.cells ok) fun x c e => by simp at e
theorem LcSc.kinds (S : LcSc X N' cap scope) {C : Addr} {cl : List (Str × Addr)} {x : Str} (h : (compEnvC scope cl C X.env).kindOf x = some .cell ∨ (compEnvC scope cl C X.env).kindOf x = some .free) : scope.names.lookup x = some .free := by
  rcases h with h | h
  · rcases relabel_of (names := scope.names) h with q | ⟨q, _⟩
    · exact absurd rfl (S.nocell _ (PySem.mem_of_lookup q))
    · exact q
  · rcases relabel_of (names := scope.names) h with q | ⟨q, _⟩
    · exact q
    · exact q
theorem Inv.stkAll (I : Inv X pins σ H s) {b : Addr} (h1 : b ≠ X.env.locals) (h2 : b ∉ X.fs) : b ∉ frs X.stack := fun hb => (List.mem_cons.mp (I.stkSub b hb)).elim h1 h2

/-- the block's context is sound, its first state too -/
theorem lc_start (S : LcSc X N' cap scope) (I : Inv X pins σ H s) {fp : List Addr} {h4 : Heap} {C : Addr} {tk : Nat} (hf : ∀ b ∈ fp, FpOk X pins H b) (hlt : ∀ b ∈ fp, b < s.heap.objs.size)
    (hC : s.heap.objs.size ≤ C) (hn : h4.Ns C fun _ => none) (hk : ∀ b o, s.heap.get? b = some o → h4.get? b = some o) :
    Inv (lcCx X N' scope C s H fp pins) [] (capS cap σ) H { s with heap := h4, toks := tk } := by
  have cellLt : ∀ x c, X.env.cells.lookup x = some c → c < s.heap.objs.size := fun x c e => by
    obtain ⟨v, q⟩ := I.cell x c e
    exact q.lt
  have fresh : H C = none := I.hok.fresh hC
  have ok : (lcCx X N' scope C s H fp pins).Ok := by
    refine ⟨I.ok.mod, S.kind, I.ok.glob, I.ok.blt, hC, fun x y c h1 h2 => ?_, fun x hx => ?_, fun x c hx _ => ?_, I.ok.hd, I.ok.frames, .inl rfl, fun b hb => ⟨?_, fun x c e => ?_⟩, I.bs, Nat.le_trans I.ok.bsz I.sz, fun b o e hb => ?_, fun b hb => ?_, I.stack, I.stkFree⟩
    · exact I.ok.inj x y c (S.sub I.ok x c h1) (S.sub I.ok y c h2)
    · exact close_has scope.names [] x (.inl (PySem.mem_of_lookup (S.kinds hx)))
    · exact absurd hx (by show ¬ (false = true); decide)
    · exact Nat.ne_of_lt (Nat.lt_of_lt_of_le (hlt b hb) hC)
    · exact (hf b hb).2.2.2.2.1 x c (S.sub I.ok x c e)
    · rcases (hf b hb).2.2.2.1 with z | z
      · exact I.ok.noex b o e z
      · exact absurd (Nat.lt_of_lt_of_le (Heap.lt_size (I.ok.bs b o e).1) z) (Nat.lt_irrefl _)
    · exact I.stkAll (hf b hb).2.1 (hf b hb).2.2.1
  refine ⟨ok, rfl, I.bare, Un.kept hk, ⟨_, hn, fun i x v h1 h2 h3 => ?_⟩, fun x c e => ?_, fresh, fun x c e => I.freeC x c (S.sub I.ok x c e), fun p hp => ?_, I.hok.kept hk, ?_⟩
  · -- a name that is caught
    have h2' : (cap[i]?).map (fun o => o.bind fun j => (σ[j]?).join) = some (some v) := by
      have : (capS cap σ)[i]? = some (some v) := h2
      unfold capS at this
      rw [List.getElem?_map] at this
      exact this
    cases e : cap[i]? with
    | none => rw [e] at h2'; simp at h2'
    | some o =>
      cases o with
      | none => rw [e] at h2'; simp at h2'
      | some j =>
        rw [e] at h2'
        obtain ⟨x', a1, a2, a3⟩ := S.cap i j e
        have ex : x' = x := by
          have : N'[i]? = some x := h1
          rw [a1] at this
          exact Option.some.inj this
        subst ex
        have sv : σ[j]? = some (some v) := by
          have q : (σ[j]?).join = some v := Option.some.inj h2'
          cases f : σ[j]? with
          | none => rw [f] at q; simp at q
          | some o => rw [f] at q; cases o with
            | none => simp at q
            | some v' => simp at q; rw [q]
        have hv : X.env.kindOf x' = some .cell ∨ X.env.kindOf x' = some .free := S.frees _ (PySem.mem_of_lookup a3) rfl
        obtain ⟨m, hm, hl⟩ := I.loc
        obtain ⟨u, r, l⟩ := hl j x' v a2 sv (hv.elim (fun z => .inr (.inl z)) fun z => .inr (.inr z))
        refine ⟨u, r, .inr ⟨?_, ?_⟩⟩
        · exact of_relabel (env := X.env) (names := scope.names) a3
        · rcases l with ⟨hk', _⟩ | ⟨_, c, hc, o, ho, hd⟩
          · rcases hv with z | z <;> rw [z] at hk' <;> cases hk'
          · obtain ⟨c', hc'⟩ := close_has (env := X.env) scope.names [] x' (.inl (PySem.mem_of_lookup a3))
            have := S.sub I.ok x' c' hc'
            rw [hc] at this
            cases this
            exact ⟨c, hc', o, hk c o ho, hd⟩
  · obtain ⟨v, o, ho, hd⟩ := I.cell x c (S.sub I.ok x c e)
    exact ⟨v, o, hk c o ho, hd⟩
  · have hp' : p ∈ X.pn ++ pins := by
      rcases List.mem_append.mp hp with z | z
      · exact z
      · exact absurd z (by simp)
    obtain ⟨e, n, ne, nf, d⟩ := I.pin p hp'
    exact ⟨hk _ _ e, n, Nat.ne_of_lt (Nat.lt_of_lt_of_le (Heap.lt_size e) hC), I.stkAll ne nf, d⟩
  · show (capS cap σ).length = N'.length
    unfold capS
    rw [List.length_map]
    exact S.len
end

/-- what a comprehension wants: an invariant by the turn, a measure, what has been gathered -/
def tLc (cap : List (Option Nat)) (wi : TI) (g : TG) (tc : TT) (te : TE) : TE := fun σ H Q => wi σ H fun J H1 => ∃ W : Nat → Nat → List V → St → Hp → Prop, (∃ m, W 0 m [] (capS cap σ) H1) ∧ ∀ i m acc σ' H', W i m acc σ' H' →
  (J.stop i H' ∧ ∀ p, H' p = none → Q (.ref p) (upd H' p (.lst acc))) ∨
  (J.go i H' ∧ acc.length < sizeLine ∧ ∃ N : List V → St → Hp → Prop, (∀ acc' σ2 H2, N acc' σ2 H2 → ∃ m', m' < m ∧ W (i + 1) m' acc' σ2 H2) ∧ ∀ x H2, J.yld i H' x H2 → g x σ' H2 fun σ2 H3 => tc σ2 H3 fun b H4 => (b = true ∧ te σ2 H4 fun v H5 => N (acc ++ [v]) σ2 H5) ∨ (b = false ∧ N acc σ2 H4))

section
variable {X : Cx} {N' : List Str} {cap : List (Option Nat)} {scope : Scope}
theorem lc_run {elt tg iter : Expr} {ifs : List Expr} {pos : Pos} {wi : TI} {g : TG} {tc : TT} {te : TE} (hc : X.calm = true) (S : LcSc X N' cap scope) (hi : PI X tg iter wi)
    (hg : ∀ C s H fp pn, PG (lcCx X N' scope C s H fp pn) tg g) (hif : ∀ C s H fp pn, PIfs (lcCx X N' scope C s H fp pn) ifs tc) (he : ∀ C s H fp pn, PE (lcCx X N' scope C s H fp pn) elt te)
    (hs : ∀ x, foldedSetIterable iter X.env x = pure x) {pins : List (Addr × Obj)} {s : Shared} {σ : St} {H : Hp} {Q : VK} (I : Inv X pins σ H s) (h : tLc cap wi g tc te σ H Q)
    {use : Option (Value → Sem Unit)} {QQ : Value → Shared → Prop}
    (post : ∀ (D C : Addr) (H' : Hp) (acc : List V) (s' : Shared), D ≠ C → (∃ m, s'.heap.Ns C m) → (∀ h', Heap.SameBut C s'.heap h' → Inv X pins σ (upd H' D (.lst acc)) { s' with heap := h' }) → FpOk X pins (upd H' D (.lst acc)) C → Q (.ref D) (upd H' D (.lst acc)) → compPost (model X.prog X.w) X.A X.xe use QQ (.ref D) C (.ok .next) s') :
    wpAny (model X.prog X.w) X.A (comprehension (.ListComp elt [⟨tg, iter, ifs, 0⟩] scope pos) scope X.env (firstIterPos [⟨tg, iter, ifs, 0⟩] pos) (newList []) false (firstIter [⟨tg, iter, ifs, 0⟩] X.env) use) QQ X.xe s := by
  refine wpAny_comprehension_free (e := .ListComp elt [⟨tg, iter, ifs, 0⟩] scope pos) (g := ⟨tg, iter, ifs, 0⟩) (gs := []) rfl hs (closure_eq (S.cells I.ok)) S.kind S.names ?_
  refine thn (hi pins s σ H _ I h) fun v s1 h1 => thn h1 fun itv s2 h2 => ?_
  obtain ⟨it, fp, tn, J, H2, e, I2, T, st2, f2, W, ⟨m0, w0⟩, turn⟩ := h2
  subst e
  have fplt : ∀ b ∈ fp, b < s2.heap.objs.size := fun b hb => by
    obtain ⟨o, e, _⟩ := T.obj _ _ st2 b hb
    exact Heap.lt_size e
  refine wpAny_newObj_type (wpAny_newFunctionEnv S.nocell (fun y hy => by simp at hy) (fun h1' hns hsb => ?_) S.kind)
  dsimp only at hns hsb ⊢
  generalize hP : s2.heap.push { cls := .type "list", dict := none, data := .seq ([] : List Value).toArray } = P2 at hns hsb ⊢
  have hsz : P2.objs.size = s2.heap.objs.size + 1 := by rw [← hP, Heap.size_push]
  have hDC : s2.heap.objs.size ≠ P2.objs.size := by rw [hsz]; exact Nat.ne_of_lt (Nat.lt_succ_self _)
  have hC : s2.heap.objs.size ≤ P2.objs.size := by rw [hsz]; exact Nat.le_succ _
  have keepP : ∀ b o, P2.get? b = some o → b ≠ P2.objs.size → h1'.get? b = some o := fun b o e hb => hsb.extBut b o hb (Heap.get?_push_of_some _ e)
  have old : ∀ b o, s2.heap.get? b = some o → h1'.get? b = some o := fun b o e => keepP b o (by rw [← hP]; exact Heap.get?_push_of_some _ e) (Nat.ne_of_lt (Nat.lt_of_lt_of_le (Heap.lt_size e) hC))
  have hD0 : h1'.get? s2.heap.objs.size = some { cls := .type "list", data := .seq #[] 0 } := keepP _ _ (by rw [← hP]; exact Heap.get?_push_size _ rfl) hDC
  have I4 : Inv (lcCx X N' scope P2.objs.size s2 H2 fp pins) [] (capS cap σ) H2 { s2 with heap := h1', toks := s2.toks + ([] : List (Str × Value)).length } :=
    lc_start S I2 f2 fplt hC (by simpa using hns) old
  -- the loop
  have loop : ∀ s4 : Shared, s4 = { s2 with heap := h1', toks := s2.toks + ([] : List (Str × Value)).length } →
      codeAny (model X.prog X.w) X.A (.compLoop (.ListComp elt [⟨tg, iter, ifs, 0⟩] scope pos) 0 (.ref it) (.ref s2.heap.objs.size) (compEnvC scope (closeOf X.env scope.names []) P2.objs.size X.env)) (compPost (model X.prog X.w) X.A X.xe use QQ (.ref s2.heap.objs.size) P2.objs.size) s4 := by
    rintro s4 rfl
    have hfrD : s2.heap.objs.size ∉ frs X.stack := fun hb => by
      obtain ⟨_, o, ho, _⟩ := I2.stack.mem hb
      exact absurd (Heap.lt_size ho) (Nat.lt_irrefl _)
    have cne : ∀ x c, (closeOf X.env scope.names []).lookup x = some c → c < s2.heap.objs.size := fun x c e => by
      obtain ⟨v, q⟩ := I2.cell x c (S.sub I2.ok x c e)
      exact q.lt
    have stat : ∀ {Hx : Hp} {ob : Obj}, (∀ b ∈ fp, Hx b = none) → ∀ b ∈ fp, FpOk (lcCx X N' scope P2.objs.size s2 H2 fp pins) [(s2.heap.objs.size, ob)] Hx b := fun {Hx ob} hn b hb => by
      refine ⟨hn b hb, Nat.ne_of_lt (Nat.lt_of_lt_of_le (fplt b hb) hC), I2.stkAll (f2 b hb).2.1 (f2 b hb).2.2.1, .inl hb, fun x c e => (f2 b hb).2.2.2.2.1 x c (S.sub I2.ok x c e), fun p hp => ?_⟩
      rcases List.mem_append.mp hp with z | z
      · exact (f2 b hb).2.2.2.2.2 p z
      · rw [List.mem_singleton.mp z]
        exact Nat.ne_of_gt (fplt b hb)
    refine lc_loop (fun n s' => ∃ (i : Nat) (σ' : St) (H' : Hp) (acc : List V) (its : List Value) (nn : Nat), Inv (lcCx X N' scope P2.objs.size s2 H2 fp pins) [] σ' H' s' ∧ tn i s'.heap ∧ (∀ b ∈ fp, H' b = none) ∧ H' s2.heap.objs.size = none ∧
      s'.heap.get? s2.heap.objs.size = some { cls := .type "list", data := .seq its.toArray nn } ∧ Vals acc its ∧ acc.length ≤ sizeLine ∧ W i n acc σ' H') ?_ m0
      ⟨0, capS cap σ, H2, [], [], 0, I4, T.keep _ _ _ st2 fun b _ o e => old b o e, fun b hb => (f2 b hb).1, I2.hok.fresh (Nat.le_refl _), hD0, .nil, Nat.zero_le _, w0⟩
    rintro n s5 ⟨i, σ', H', acc, its, nn, I5, t5, fr5, d5, g5, va, la, w5⟩
    have I5p : Inv (lcCx X N' scope P2.objs.size s2 H2 fp pins) [(s2.heap.objs.size, { cls := .type "list", data := .seq its.toArray nn })] σ' H' s5 := I5.pins_of fun p hp => by
      rw [List.mem_singleton.mp hp]
      exact ⟨g5, d5, hDC, hfrD, fun v z => by cases z⟩
    rcases turn i n acc σ' H' w5 with ⟨stop, q⟩ | ⟨go, lt, N, hN, step⟩
    · refine thn (T.done (lcCx X N' scope P2.objs.size s2 H2 fp pins) rfl rfl rfl hc i _ s5 σ' H' _ I5p (stat fr5) t5 stop) fun r s6 ⟨hr, I6⟩ => .inl ⟨hr, ?_⟩
      have d6 := (I6.pin (s2.heap.objs.size, { cls := .type "list", data := .seq its.toArray nn }) (by simp)).1
      have nC : H' P2.objs.size = none := I6.free
      refine post _ _ H' acc s6 hDC (let ⟨m, hn, _⟩ := I6.loc; ⟨m, hn⟩) (fun h' hs' => ?_) (I2.fpOk hC (by rw [upd_ne hDC.symm]; exact nC)) (q _ d5)
      have up : ∀ b o, b ≠ P2.objs.size → s6.heap.get? b = some o → h'.get? b = some o := fun b o hb e => hs'.extBut b o hb e
      have ltC : ∀ b o, s2.heap.get? b = some o → b ≠ P2.objs.size ∧ b ≠ s2.heap.objs.size := fun b o e => ⟨Nat.ne_of_lt (Nat.lt_of_lt_of_le (Heap.lt_size e) hC), Nat.ne_of_lt (Heap.lt_size e)⟩
      have u6 : Un (frs X.stack) fp H2 H' s2.heap s6.heap := I6.base
      have u7 : Un (frs X.stack) fp H2 (upd H' s2.heap.objs.size (.lst acc)) s2.heap h' := by
        refine ⟨fun b o e n hb hx => up b o (ltC b o e).1 (u6.keep b o e n hb hx), fun b o e n hb hx => ?_, fun b o e n hx => ?_, fun b o e hx => ?_, fun b xs e => ?_, fun b o u e => ?_, fun b ps e => ?_⟩
        · obtain ⟨sl, q⟩ := u6.slot b o e n hb hx
          exact ⟨sl, up b _ (ltC b o e).1 q⟩
        · rw [upd_ne (ltC b o e).2]
          exact u6.free b o e n hx
        · obtain ⟨o', q⟩ := u6.there b o e hx
          exact ⟨o', up b o' (ltC b o e).1 q⟩
        · have z := u6.tups b xs e
          rw [upd_ne (ne_of_none z d5)]
          exact z
        · have z := u6.frzs b o u e
          rw [upd_ne (ne_of_none z d5)]
          exact z
        · obtain ⟨more, z⟩ := u6.tbls b ps e
          exact ⟨more, by rw [upd_ne (ne_of_none z d5)]; exact z⟩
      have ok7 : HOk X.prog X.w (upd H' s2.heap.objs.size (.lst acc)) h' := fun b u e => by
        by_cases hb : b = s2.heap.objs.size
        · subst hb
          rw [upd_same] at e
          cases e
          exact ⟨la, its, nn, va, up _ _ hDC d6⟩
        · rw [upd_ne hb] at e
          refine (I6.hok b u e).stay (fun c v hc' z => up c v ?_ z) (fun c z => by rw [upd_ne (ne_of_none z d5)]; exact z) fun c xs z => by rw [upd_ne (ne_of_none z d5)]; exact z
          rcases hc' with rfl | z
          · exact ne_of_none e nC
          · exact ne_of_none z nC
      have os6 : s6.os = s2.os := I6.os
      have ba6 := I6.bare
      obtain ⟨hh, gg, dd, tt, oo⟩ := s6
      subst os6
      have z7 := I2.call (s := s2) (h' := h') (g' := gg) (d' := dd) (t' := tt) (ch := fp) u7 ok7 ba6 fun b hb => ⟨(f2 b hb).2.2.2.1, (f2 b hb).2.1, (f2 b hb).2.2.2.2.1, (f2 b hb).2.2.2.2.2⟩
      exact z7
    · refine thn (T.item (lcCx X N' scope P2.objs.size s2 H2 fp pins) rfl rfl rfl hc i _ s5 σ' H' _ I5p (stat fr5) t5 go) fun r s6 ⟨u, hr, h6⟩ => .inr ⟨u, hr, ?_⟩
      refine thn h6 fun _ s7 ⟨x, H7, I7, r7, y7, t7, fr7⟩ => ?_
      have I7' := I7.pinned (stat fr7) (T.obj _ _ t7)
      have back : ∀ {σx : St} {Hx : Hp} {sx : Shared}, Inv (lcCx X N' scope P2.objs.size s2 H2 fp pins) ([(s2.heap.objs.size, { cls := .type "list", data := .seq its.toArray nn })] ++ pinsAt fp s7.heap) σx Hx sx →
          (∀ b ∈ fp, ∀ o, s7.heap.get? b = some o → sx.heap.get? b = some o) ∧ (∀ b ∈ fp, Hx b = none) ∧ sx.heap.get? s2.heap.objs.size = some { cls := .type "list", data := .seq its.toArray nn } ∧ Hx s2.heap.objs.size = none := fun {σx Hx sx} Ix => by
        refine ⟨fun b hb o e => (Ix.pin (b, o) (List.mem_append_right _ (List.mem_append_right _ (mem_pinsAt hb e)))).1, fun b hb => ?_, ?_, ?_⟩
        · obtain ⟨o, e, _⟩ := T.obj _ _ t7 b hb
          exact (Ix.pin (b, o) (List.mem_append_right _ (List.mem_append_right _ (mem_pinsAt hb e)))).2.1
        · exact (Ix.pin (s2.heap.objs.size, _) (List.mem_append_right _ (List.mem_append_left _ (List.mem_singleton.mpr rfl)))).1
        · exact (Ix.pin (s2.heap.objs.size, { cls := .type "list", data := .seq its.toArray nn }) (List.mem_append_right _ (List.mem_append_left _ (List.mem_singleton.mpr rfl)))).2.1
      refine thn (hg _ _ _ _ _ _ s7 σ' H7 x u _ I7' r7 (step x H7 y7)) fun _ s8 ⟨σ8, H8, I8, q8⟩ => ?_
      refine thn (hif _ _ _ _ _ _ s8 σ8 H8 _ I8 q8) fun b s9 ⟨H9, I9, q9⟩ => ?_
      rcases q9 with ⟨rfl, q9⟩ | ⟨rfl, n9⟩
      · refine .inl ⟨rfl, thn (he _ _ _ _ _ _ s9 σ8 H9 _ I9 q9) fun uv s10 ⟨v, H10, I10, rv, n10⟩ => ?_⟩
        obtain ⟨m', hm, w10⟩ := hN _ _ _ n10
        obtain ⟨b1, b2, b3, b4⟩ := back I10
        refine wpAny_list_append_plain ⟨nn, b3⟩ (fun h' hp hs' => ?_) (by rw [List.size_toArray, ← va.length]; exact la)
        obtain ⟨n2, e2⟩ := hp
        have up : ∀ b o, b ≠ s2.heap.objs.size → s10.heap.get? b = some o → h'.get? b = some o := fun b o hb e => hs'.extBut b o hb e
        have I10' : Inv (lcCx X N' scope P2.objs.size s2 H2 fp pins) [] σ8 H10 s10 := I10.pins_of fun p hp => absurd hp (by simp)
        refine ⟨m', hm, i + 1, σ8, H10, acc ++ [v], its ++ [uv], n2, I10'.turned (t' := s10.toks) up b4 hDC (.inr (Nat.le_refl _)) (fun x c e => Nat.ne_of_lt (cne x c e)) (fun p hp => ?_), T.keep _ _ _ t7 fun b hb o e => up b o (Nat.ne_of_lt (fplt b hb)) (b1 b hb o e), b2, b4, ?_, va.append (.cons rv .nil), ?_, w10⟩
        · have hp' : p ∈ X.pn ++ pins := by
            rcases List.mem_append.mp hp with z | z
            · exact z
            · exact absurd z (by simp)
          exact Nat.ne_of_lt (Heap.lt_size (I2.pin p hp').1)
        · rw [e2]
          simp
        · rw [List.length_append, List.length_singleton]
          exact lt
      · obtain ⟨m', hm, w9⟩ := hN _ _ _ n9
        obtain ⟨b1, b2, b3, b4⟩ := back I9
        exact .inr ⟨rfl, m', hm, i + 1, σ8, H9, acc, its, nn, I9.pins_of fun p hp => absurd hp (by simp), T.keep _ _ _ t7 b1, b2, b4, b3, va, la, w9⟩
  exact codeAny_compStart_list (loop _ rfl) (T.self _ 0 _ _ _ (T.keep _ _ _ st2 fun b _ o e => old b o e) (loop _ rfl))

/-- [elt for target in iter if ..] -/
theorem pe_lc {elt tg iter : Expr} {ifs : List Expr} {pos : Pos} {wi : TI} {g : TG} {tc : TT} {te : TE} (hc : X.calm = true) (S : LcSc X N' cap scope) (hi : PI X tg iter wi)
    (hg : ∀ C s H fp pn, PG (lcCx X N' scope C s H fp pn) tg g) (hif : ∀ C s H fp pn, PIfs (lcCx X N' scope C s H fp pn) ifs tc) (he : ∀ C s H fp pn, PE (lcCx X N' scope C s H fp pn) elt te)
    (hs : ∀ x, foldedSetIterable iter X.env x = pure x := by intro _; rfl) : PE X (.ListComp elt [⟨tg, iter, ifs, 0⟩] scope pos) (tLc cap wi g tc te) := by
  intro pins s σ H Q I h
  rw [eval_ListComp]
  refine lc_run (use := none) (Q := Q) hc S hi hg hif he hs I h fun D C H' acc s' hDC ⟨m, hn⟩ hI _ hq => ⟨m, hn, fun h' hs' => ?_⟩
  exact ⟨.ref D, _, hI h' hs', rfl, hq⟩
end
end L2

end

section
set_option Elab.async false
set_option linter.all false
set_option maxRecDepth 100000
set_option maxHeartbeats 4000000
namespace L2
open PySem PySem.Spec PyProof.Rows

/-! ## data that stands in the abstract heap -/
def keyD : Key → PyData
  | .inl i => .int i
  | .inr x => .str x
mutual
def Rep (K : PySem.W.Frag) (H : Hp) : PyData → V → Prop
  | .none, v => v = .non
  | .bool b, v => v = .bl b
  | .int i, v => v = .int i
  | .str x, v => v = .str x
  | .list xs, v => ∃ a vs, v = .ref a ∧ SqL K H a vs ∧ RepAll K H xs vs
  | .tuple xs, v => ∃ a vs, v = .ref a ∧ SqT K H a vs ∧ RepAll K H xs vs
  | .dict kvs, v => ∃ a ks, v = .ref a ∧ H a = some (.dK ks) ∧ RepKV K H kvs ks
def RepAll (K : PySem.W.Frag) (H : Hp) : List PyData → List V → Prop
  | [], vs => vs = []
  | d :: ds, vs => ∃ v r, vs = v :: r ∧ Rep K H d v ∧ RepAll K H ds r
def RepKV (K : PySem.W.Frag) (H : Hp) : List (PyData × PyData) → List (Key × V) → Prop
  | [], ks => ks = []
  | (k, d) :: kvs, ks => ∃ k' v r, ks = (k', v) :: r ∧ k = keyD k' ∧ Rep K H d v ∧ RepKV K H kvs r
end
theorem Same.seqT {K : PySem.W.Frag} {H H' : Hp} {a : Addr} {xs : List V} (e : Same H H') (h : SqT K H a xs) : SqT K H' a xs := by
  rcases h with h | h
  · refine .inl ?_
    rcases h with h | ⟨o, h⟩
    · exact .inl (e _ _ h)
    · exact .inr ⟨o, e _ _ h⟩
  · exact .inr h
mutual
theorem Rep.same {K : PySem.W.Frag} {H H' : Hp} (e : Same H H') : ∀ (d : PyData) (v : V), Rep K H d v → Rep K H' d v
  | .none, v, h => h
  | .bool b, v, h => h
  | .int i, v, h => h
  | .str x, v, h => h
  | .list xs, v, h => by
    obtain ⟨a, vs, h1, h2, h3⟩ := h
    exact ⟨a, vs, h1, e.seq h2, RepAll.same e xs vs h3⟩
  | .tuple xs, v, h => by
    obtain ⟨a, vs, h1, h2, h3⟩ := h
    exact ⟨a, vs, h1, e.seqT h2, RepAll.same e xs vs h3⟩
  | .dict kvs, v, h => by
    obtain ⟨a, ks, h1, h2, h3⟩ := h
    exact ⟨a, ks, h1, e _ _ h2, RepKV.same e kvs ks h3⟩
theorem RepAll.same {K : PySem.W.Frag} {H H' : Hp} (e : Same H H') : ∀ (ds : List PyData) (vs : List V), RepAll K H ds vs → RepAll K H' ds vs
  | [], vs, h => h
  | d :: ds, vs, h => by
    obtain ⟨v, r, h1, h2, h3⟩ := h
    exact ⟨v, r, h1, Rep.same e d v h2, RepAll.same e ds r h3⟩
theorem RepKV.same {K : PySem.W.Frag} {H H' : Hp} (e : Same H H') : ∀ (kvs : List (PyData × PyData)) (ks : List (Key × V)), RepKV K H kvs ks → RepKV K H' kvs ks
  | [], ks, h => h
  | (k, d) :: kvs, ks, h => by
    obtain ⟨k', v, r, h1, h2, h3, h4⟩ := h
    exact ⟨k', v, r, h1, h2, Rep.same e d v h3, RepKV.same e kvs r h4⟩
end
theorem RepAll.length {K : PySem.W.Frag} {H : Hp} : ∀ {ds : List PyData} {vs : List V}, RepAll K H ds vs → ds.length = vs.length
  | [], vs, h => by rw [show vs = [] from h]; rfl
  | d :: ds, vs, h => by
    obtain ⟨v, r, h1, _, h3⟩ := h
    rw [h1, List.length_cons, List.length_cons, RepAll.length h3]
theorem RepAll.get {K : PySem.W.Frag} {H : Hp} : ∀ {ds : List PyData} {vs : List V} {i : Nat} {v : V}, RepAll K H ds vs → vs[i]? = some v → ∃ d, ds[i]? = some d ∧ Rep K H d v
  | [], vs, i, v, h, e => by rw [show vs = [] from h] at e; simp at e
  | d :: ds, vs, 0, v, h, e => by
    obtain ⟨w, r, h1, h2, h3⟩ := h
    rw [h1] at e
    simp at e
    subst e
    exact ⟨d, rfl, h2⟩
  | d :: ds, vs, i + 1, v, h, e => by
    obtain ⟨w, r, h1, h2, h3⟩ := h
    rw [h1] at e
    exact RepAll.get (i := i) h3 (by simpa using e)
theorem RepAll.app {K : PySem.W.Frag} {H : Hp} : ∀ {ds es : List PyData} {vs ws : List V}, RepAll K H ds vs → RepAll K H es ws → RepAll K H (ds ++ es) (vs ++ ws)
  | [], es, vs, ws, h, k => by rw [show vs = [] from h]; exact k
  | d :: ds, es, vs, ws, h, k => by
    obtain ⟨v, r, h1, h2, h3⟩ := h
    exact ⟨v, r ++ ws, by rw [h1]; rfl, h2, RepAll.app h3 k⟩

section
variable {X : Cx} {pins : List (Addr × Obj)} {σ : St} {H : Hp} {s : Shared}
theorem Inv.sysN (I : Inv X pins σ H s) : H sysModules = none := by
  obtain ⟨o, es, ep, h, _⟩ := I.mod.sysm
  exact (I.bs _ _ h).2
theorem Inv.sysL (I : Inv X pins σ H s) {a : Addr} {xs : List V} (h : SqL X.K H a xs) : sysModules ≠ a := by
  intro e
  subst e
  have hn := I.sysN
  rcases h with (h | ⟨o, h⟩) | ⟨o, its, n, hk, _, _, hd, _⟩
  · rw [hn] at h; cases h
  · rw [hn] at h; cases h
  · obtain ⟨o', es, ep, h', hd'⟩ := I.mod.sysm
    have := I.mod.kin _ _ hk
    rw [h'] at this
    cases this
    rw [hd] at hd'
    cases hd'
mutual
theorem Rep.reads' (I : Inv X pins σ H s) : ∀ (d : PyData) (v : V) (u : Value), Rep X.K H d v → RelV v u → ∃ as, Reads s.heap u d as ∧ sysModules ∉ as
  | .none, v, u, r, q => by
    rw [show v = .non from r] at q
    rw [show u = Value.none from q]
    exact ⟨_, .none, by simp⟩
  | .bool b, v, u, r, q => by
    rw [show v = .bl b from r] at q
    rw [show u = Value.bool b from q]
    exact ⟨_, .bool b, by simp⟩
  | .int i, v, u, r, q => by
    rw [show v = .int i from r] at q
    obtain ⟨t, rfl⟩ := (show ∃ t, u = Value.int i t from q)
    exact ⟨_, .int i t, by simp⟩
  | .str x, v, u, r, q => by
    rw [show v = .str x from r] at q
    obtain ⟨t, rfl⟩ := (show ∃ t, u = Value.str x t from q)
    exact ⟨_, .str x t, by simp⟩
  | .list xs, v, u, r, q => by
    obtain ⟨a, vs, rfl, h2, h3⟩ := r
    rw [show u = Value.ref a from q]
    obtain ⟨its, hv, ⟨o, n, hg, hc, _, hd⟩, _⟩ := I.list h2
    obtain ⟨as, ha, hs⟩ := RepAll.reads' I xs vs its h3 hv
    exact ⟨_, .list hg hc hd (by simpa using ha), fun z => (List.mem_cons.mp z).elim (I.sysL h2) hs⟩
  | .tuple xs, v, u, r, q => by
    obtain ⟨a, vs, rfl, h2, h3⟩ := r
    rw [show u = Value.ref a from q]
    obtain ⟨its, hv, ⟨o, hg, hc, n, hd⟩, _⟩ := I.tuple h2
    obtain ⟨as, ha, hs⟩ := RepAll.reads' I xs vs its h3 hv
    exact ⟨_, .tuple hg hc hd (by simpa using ha), hs⟩
  | .dict kvs, v, u, r, q => by
    obtain ⟨a, ks, rfl, h2, h3⟩ := r
    rw [show u = Value.ref a from q]
    obtain ⟨_, hS, vs, hkv, o, es, ep, hg, hex, hd, _, hp, _⟩ := (show ObjOk X.prog X.w H s.heap a (.dK ks) from I.hok a _ h2)
    obtain ⟨as, bs, h4, h5, n1, n2⟩ := RepKV.reads' I kvs ks vs es.toList h3 hkv hp
    refine ⟨_, .dict hg hex.1 hd h4 h5, fun z => ?_⟩
    rcases List.mem_append.mp z with z | z
    · rcases List.mem_cons.mp z with z | z
      · rw [z] at hS; simp at hS
      · exact n1 z
    · exact n2 z
theorem RepAll.reads' (I : Inv X pins σ H s) : ∀ (ds : List PyData) (vs : List V) (us : List Value), RepAll X.K H ds vs → Vals vs us → ∃ as, ReadsAll s.heap us ds as ∧ sysModules ∉ as
  | [], vs, us, r, q => by
    rw [show vs = [] from r] at q
    cases q
    exact ⟨_, .nil, by simp⟩
  | d :: ds, vs, us, r, q => by
    obtain ⟨v, t, rfl, h2, h3⟩ := r
    cases q with
    | cons q1 q2 =>
      obtain ⟨as, ha, n1⟩ := Rep.reads' I d v _ h2 q1
      obtain ⟨bs, hb, n2⟩ := RepAll.reads' I ds t _ h3 q2
      exact ⟨_, .cons ha hb, fun z => (List.mem_append.mp z).elim n1 n2⟩
theorem RepKV.reads' (I : Inv X pins σ H s) : ∀ (kvs : List (PyData × PyData)) (ks : List (Key × V)) (vs : List (Key × Value)) (es : List DictEntry), RepKV X.K H kvs ks → KV ks vs → Pairs (mixKind X.prog X.w) es vs →
    ∃ as bs, ReadsAll s.heap (es.map (·.key)) (kvs.map (·.1)) as ∧ ReadsAll s.heap (es.map (·.val)) (kvs.map (·.2)) bs ∧ sysModules ∉ as ∧ sysModules ∉ bs
  | [], ks, vs, es, r, q, p => by
    rw [show ks = [] from r] at q
    cases q
    cases p
    exact ⟨_, _, .nil, .nil, by simp, by simp⟩
  | (k, d) :: kvs, ks, vs, es, r, q, p => by
    obtain ⟨k', v, t, rfl, h1, h2, h3⟩ := r
    cases q with
    | @cons _ kv _ vs' q1 q2 =>
      cases p with
      | @cons e _ es' _ p1 p2 p3 =>
        obtain ⟨as, bs, ha, hb, n1, n2⟩ := RepKV.reads' I kvs t _ _ h3 q2 p3
        obtain ⟨cs, hc, n3⟩ := Rep.reads' I d v _ h2 q1.2
        have hkey : Reads s.heap e.key k [] := by
          rw [h1]
          have p1' : keyIs kv.1 e.key = true := p1
          rw [← show k' = kv.1 from q1.1] at p1'
          rcases keyIs_shape p1' with ⟨i, t', rfl, he⟩ | ⟨x, t', rfl, he⟩
          · rw [he]; exact .int i t'
          · rw [he]; exact .str x t'
        refine ⟨_, _, .cons hkey ha, .cons (show Reads s.heap e.val d cs by rw [p2]; exact hc) hb, by simpa using n1, fun z => (List.mem_append.mp z).elim n3 n2⟩
end
theorem Rep.reads (I : Inv X pins σ H s) (d : PyData) (v : V) (u : Value) (r : Rep X.K H d v) (q : RelV v u) : ∃ as, Reads s.heap u d as := let ⟨as, h, _⟩ := Rep.reads' I d v u r q; ⟨as, h⟩
theorem RepAll.reads (I : Inv X pins σ H s) (ds : List PyData) (vs : List V) (us : List Value) (r : RepAll X.K H ds vs) (q : Vals vs us) : ∃ as, ReadsAll s.heap us ds as := let ⟨as, h, _⟩ := RepAll.reads' I ds vs us r q; ⟨as, h⟩
end

section
variable {X : Cx}
/-! ## == and in, of data -/
def rEqD (K : PySem.W.Frag) (neg : Bool) : R2 := fun x y H Q => ∃ dx dy, Rep K H dx x ∧ Rep K H dy y ∧ SeqAt.shaped dx = true ∧ SeqAt.shaped dy = true ∧ Q (.bl (if neg then !PyData.eqv dx dy else PyData.eqv dx dy)) H
theorem op_eqD (hu : X.A.units + 64 < cLine) : OpR X (compareOp .Eq) (rEqD X.K false) := by
  intro pins s σ H x y v u Q I rx ry h
  obtain ⟨dx, dy, hx, hy, sx, sy, q⟩ := h
  obtain ⟨as, ha⟩ := Rep.reads I dx x v hx rx
  obtain ⟨bs, hb⟩ := Rep.reads I dy y u hy ry
  exact eq_dataH ha hb sx sy hu ⟨.bl _, H, I, rfl, q⟩
theorem op_neD (hu : X.A.units + 64 < cLine) : OpR X (compareOp .NotEq) (rEqD X.K true) := by
  intro pins s σ H x y v u Q I rx ry h
  obtain ⟨dx, dy, hx, hy, sx, sy, q⟩ := h
  obtain ⟨as, ha⟩ := Rep.reads I dx x v hx rx
  obtain ⟨bs, hb⟩ := Rep.reads I dy y u hy ry
  exact ne_dataH ha hb sx sy hu ⟨.bl _, H, I, rfl, q⟩


open Classical in
/-- does a value's data equal dv? -/
noncomputable def eqU' (h : Heap) (dv : PyData) (u : Value) : Bool := if ∃ d as, Reads h u d as ∧ PyData.eqv d dv = true then true else false
theorem eqU'_of {h : Heap} {dv d : PyData} {u : Value} {as : List Addr} (r : Reads h u d as) (hc : d.canLay0 = true) : eqU' h dv u = PyData.eqv d dv := by
  unfold eqU'
  by_cases e : PyData.eqv d dv = true
  · rw [if_pos ⟨d, as, r, e⟩, e]
  · rw [if_neg, Bool.eq_false_iff.mpr e]
    rintro ⟨d', as', r', e'⟩
    have := SeqAt.Reads.unique d d' u as as' hc r r'
    subst this
    exact e e'
theorem inD_list {A : Around} {s : Shared} {v : Value} {dv : PyData} {av : List Addr} (hv : Reads s.heap v dv av) (sv : SeqAt.shaped dv = true) (hu : A.units + 64 < cLine) :
    ∀ (us : List Value) (ds : List PyData) (as : List Addr), ReadsAll s.heap us ds as → ds.all SeqAt.shaped = true → (∀ y ∈ us, SeqAt.EqAt A s y v (eqU' s.heap dv y)) ∧ us.any (eqU' s.heap dv) = ds.any fun d => PyData.eqv d dv
  | [], ds, as, r, _ => by
    cases r
    exact ⟨fun y hy => absurd hy (by simp), rfl⟩
  | y :: us, ds, as, r, hs => by
    cases r with
    | @cons _ _ d ds' as1 bs1 r1 r2 =>
      rw [List.all_cons, Bool.and_eq_true] at hs
      obtain ⟨h1, h2⟩ := inD_list hv sv hu us _ _ r2 hs.2
      have e := eqU'_of (dv := dv) r1 (SeqAt.canLay_of_shaped hs.1)
      have hy : SeqAt.EqAt A s y v (PyData.eqv d dv) := SeqAt.eqAt_reads d dv A s y v _ _ r1 hv (SeqAt.canLay_of_shaped hs.1) (SeqAt.canLay_of_shaped sv) (SeqAt.room_of_shaped hs.1 hu)
      refine ⟨fun z hz => ?_, by rw [List.any_cons, List.any_cons, e, h2]⟩
      rcases List.mem_cons.mp hz with q | q
      · rw [q, e]; exact hy
      · exact h1 z q
/-- x in a list or tuple of data -/
def rInD (K : PySem.W.Frag) (neg : Bool) : R2 := fun x y H Q => ∃ dx ds p vs, Rep K H dx x ∧ y = .ref p ∧ (SqL K H p vs ∨ SqT K H p vs) ∧ RepAll K H ds vs ∧ SeqAt.shaped dx = true ∧ ds.all SeqAt.shaped = true ∧
  Q (.bl (if neg then !ds.any fun d => PyData.eqv d dx else ds.any fun d => PyData.eqv d dx)) H
theorem op_inD (hu : X.A.in1.units + 64 < cLine) : OpR X (compareOp .In) (rInD X.K false) := by
  intro pins s σ H x y v u Q I rx ry h
  obtain ⟨dx, ds, p, vs, hx, rfl, hp, hds, sx, sds, q⟩ := h
  cases ry
  obtain ⟨as, ha⟩ := Rep.reads I dx x v hx rx
  rcases hp with hp | hp
  · obtain ⟨its, r, pl, hz⟩ := I.list hp
    obtain ⟨bs, hb⟩ := RepAll.reads I ds vs its hds r
    obtain ⟨h1, h2⟩ := inD_list (A := X.A.in1) ha sx hu its ds bs hb sds
    refine SeqAt.in_listAt (eqU' s.heap dx) pl.isList (fun w hw => h1 w (by simpa using hw)) ⟨.bl _, H, I, rfl, ?_⟩
    rw [show its.toArray.any (eqU' s.heap dx) = its.any (eqU' s.heap dx) by simp, h2]
    exact q
  · obtain ⟨its, r, pl, hz⟩ := I.tuple hp
    obtain ⟨bs, hb⟩ := RepAll.reads I ds vs its hds r
    obtain ⟨h1, h2⟩ := inD_list (A := X.A.in1) ha sx hu its ds bs hb sds
    refine SeqAt.in_tupleAt (eqU' s.heap dx) pl (fun w hw => h1 w (by simpa using hw)) ⟨.bl _, H, I, rfl, ?_⟩
    rw [show its.toArray.any (eqU' s.heap dx) = its.any (eqU' s.heap dx) by simp, h2]
    exact q

/-! ## isinstance -/
theorem Vals.types : ∀ {Ts : List String} {its : List Value}, Vals (Ts.map V.ty) its → its = Ts.map Value.type
  | [], _, h => by cases h; rfl
  | t :: Ts, its, h => by
    cases h with
    | cons r1 r2 => rw [show _ = Value.type t from r1, Vals.types r2]; rfl

/-! ## all, any of a list of truths -/

/-! ## numbers of any size below a wide bound -/
def wideN : Nat := 2 ^ 8000
def Wide (i : Int) : Prop := i.natAbs < wideN
theorem wide_log {j : Int} (h : Wide j) : j.natAbs.log2 < 9000 := by
  by_cases h0 : j.natAbs = 0
  · rw [h0]; decide +kernel
  · exact Nat.lt_trans ((Nat.log2_lt h0).mpr h) (by decide)
def CMulW (i j : Int) : Prop := Wide i ∧ Wide j
theorem wide_bits {j : Int} (h : Wide j) : Builtin.Int.intBits j ≤ 2 ^ 20 := by
  unfold Builtin.Int.intBits
  by_cases h0 : (j == 0) = true
  · rw [if_pos h0]; exact Nat.zero_le _
  · rw [if_neg h0]
    have := wide_log h
    omega
end
end L2

end

section
set_option Elab.async false
set_option linter.all false
set_option maxRecDepth 100000
set_option maxHeartbeats 4000000
namespace L2
open PySem PySem.Spec PyProof.Rows

/-! ## a def of the text, by its promise alone -/
structure Callee (P : Program) (w : World) (K : PySem.W.Frag) (mg : Str → Option Value) (base : Heap) (k : Nat) (x : Str) (ps : List Str) (sp : Sp) : Prop where
  ex : ∃ f fd, FnOk P w K mg base CX0 k f fd ps sp ∧ mg x = some (.ref f) ∧ PySem.W.keepIn K (.ref f) = true ∧ Binds K fd ps []
structure Def (K : PySem.W.Frag) (mg : Str → Option Value) (x : Str) (st : Stmt) : Prop where
  ex : ∃ f fd, Fun K x x st f fd ∧ mg x = some (.ref f)
section
variable {P : Program} {w : World} {K : PySem.W.Frag} {mg : Str → Option Value} {base : Heap} {X : Cx}
theorem Def.ok {x : Str} {st : Stmt} {N ps : List Str} {k : Nat} {sp : Sp} (D : Def K mg x st) (S : FnScope N ps (defScope st))
    (hb : ∀ (kV doc pm : Value) (an : Option Addr) (cdv ct : Value) (us : List Value), us.length = ps.length → bindArgs (PySem.W.fnOf x x (defArgs st) (defBody st) (defScope st) .none kV doc pm an cdv ct) ⟨us, []⟩ = pure (ps.zip us))
    (len : ∀ vs H Q E, sp vs H Q E → vs.length = ps.length)
    (hbody : ∀ (f : Addr) (cdv : Value) (A : Around) (outer : List Env) (s : Shared) (H : Hp) (vs : List V) (Q : VK) (E : XK), Room k (A.deeper (envOfC x (defScope st) s.heap.objs.size f cdv)) → sp vs H Q E →
      ∃ t, PSs (cxOf CX0 P w K mg base N x (defScope st) f cdv A outer s H E).nox (defBody st) t ∧ t { nx := fun _ H' => Q .non H', rt := Q } (start N vs) H) : Callee P w K mg base (k + 1) x ps sp := by
  obtain ⟨f, fd, F, m⟩ := D.ex
  exact ⟨f, fd, F.ok S len fun cdv A outer s H vs Q E hr h => hbody f cdv A outer s H vs Q E hr h, m, F.kp, F.binds hb⟩
theorem Callee.mono {j k : Nat} {x : Str} {ps : List Str} {sp : Sp} (C : Callee P w K mg base j x ps sp) (h : j ≤ k) : Callee P w K mg base k x ps sp := by
  obtain ⟨f, fd, F, r⟩ := C.ex
  exact ⟨f, fd, F.mono h, r⟩
theorem def_mk {x : Str} {st : Stmt} {h : Heap} {f : Addr} {oc : Value} {od an : Option Addr} {osl : Array (Option Value)} {kV doc pm cdv ct : Value} (X : K.In h) (G : h.Ns mainGlobals mg) (a : PySem.W.nsIn K mainGlobals x = some (some (.ref f)))
    (l : K.lookup f = some ⟨oc, od, .func (PySem.W.fnOf x x (defArgs st) (defBody st) (defScope st) .none kV doc pm an cdv ct), osl⟩) (c : PySem.W.codeIn K cdv x = true) (k : PySem.W.keepIn K (.ref f) = true) : Def K mg x st :=
  ⟨f, _, fun_mk l c k, PySem.W.mg_of X G a⟩
/-- f(e, ..) -/
theorem pe_cal {k : Nat} {x : Str} {ps : List Str} {sp : Sp} {p pos : Pos} {e : Expr} {es : List Expr} {t : TA} (C : Callee X.prog X.w X.K X.mg X.base k x ps sp) (hr : Room k X.A) (ha : PA X (e :: es) t) (hg : Gl X x := by rfl)
    (hdb : (x == ("__debug__" : Str)) = false := by decide) (he : starEach (e :: es) X.env = (false, eval e X.env) :: starEach es X.env := by rfl) (hpl : (backTo pos (starEach es X.env)).any (·.1) = false := by rfl) :
    PE X (.Call (.Name x p) (e :: es) [] pos) (tCall sp [] E0 t) := by
  obtain ⟨f, fd, F, m, kp, b⟩ := C.ex
  exact pe_call F hr hg m kp b .nil pass0 ha hdb he hpl

/-! ## the built-ins by their names -/
/-- the built-in names that the text does not bind -/
def Free (mg : Str → Option Value) (xs : List Str) : Prop := ∀ x ∈ xs, mg x = none
theorem Free.of {xs : List Str} (h : Free mg xs) (x : Str) (hx : x ∈ xs := by decide +kernel) : mg x = none := h x hx
theorem free_nil : Free mg [] := fun _ h => absurd h (by simp)
theorem free_cons {x : Str} {xs : List Str} (h : mg x = none) (hr : Free mg xs) : Free mg (x :: xs) := fun y hy => (List.mem_cons.mp hy).elim (fun e => e ▸ h) (hr y)

/-- a * b: one factor short, or both wide -/
def CMulA (i j : Int) : Prop := CMul i j ∨ CMulW i j
theorem CMulA.ok {i j : Int} (h : CMulA i j) : IntMulOk i j := by
  rcases h with h | h
  · exact h.ok
  · exact IntMulOk.of_bits (wide_bits h.1) (wide_bits h.2)
theorem op_mulA : OpR X (binaryOp .Mult) (rI CMulA fun i j => .int (i * j)) := opI fun _ _ _ _ _ _ _ hc q => mul_int q hc.ok
end
end L2
namespace L2
open PySem PySem.Spec PyProof.Rows
/-- the look at a comprehension's names -/
def chkLc (sc0 : Scope) (N N' : List Str) (cap : List (Option Nat)) (scope : Scope) : Bool :=
  scope.names.all (fun y => y.2 != .cell) && (scope.kind == .function) && scope.names.all (fun y => y.2 != .local || scope.names.lookup y.1 == some .local) &&
  scope.names.all (fun y => y.2 != .free || (sc0.names.lookup y.1 == some .cell || sc0.names.lookup y.1 == some .free)) && (cap.length == N'.length) &&
  (List.range cap.length).all fun i => match cap[i]? with
    | some (some j) => (match N'[i]?, N[j]? with
      | some x, some y => x == y && scope.names.lookup x == some .free
      | _, _ => false)
    | _ => true
theorem lcsc_of {X : Cx} {sc0 scope : Scope} {N N' : List Str} {cap : List (Option Nat)} (h1 : X.env.scope = sc0) (h2 : X.N = N) (h : chkLc sc0 N N' cap scope = true) : LcSc X N' cap scope := by
  unfold chkLc at h
  simp only [Bool.and_eq_true, List.all_eq_true, beq_iff_eq, bne_iff_ne, ne_eq, Bool.or_eq_true, List.mem_range] at h
  obtain ⟨⟨⟨⟨⟨a, b⟩, c⟩, d⟩, e⟩, f⟩ := h
  refine ⟨a, b, fun y hy hk => ?_, fun y hy hk => ?_, e, fun i j hij => ?_⟩
  · rcases c y hy with z | z
    · exact absurd hk z
    · exact z
  · show X.env.scope.names.lookup y.1 = _ ∨ X.env.scope.names.lookup y.1 = _
    rw [h1]
    rcases d y hy with z | z
    · exact absurd hk z
    · exact z
  · have hi : i < cap.length := (List.getElem?_eq_some_iff.mp hij).1
    have g := f i hi
    rw [hij] at g
    dsimp only at g
    rw [h2]
    split at g
    · rename_i x y ex ey
      rw [Bool.and_eq_true, beq_iff_eq, beq_iff_eq] at g
      exact ⟨x, ex, by rw [ey, g.1], g.2⟩
    · cases g
end L2

end

section
set_option Elab.async false
set_option linter.all false
set_option maxRecDepth 100000
set_option maxHeartbeats 4000000
namespace L2
open PySem PySem.Spec PyProof.Rows
/-! ## isinstance of data -/
def tyName : PyData → String
  | .none => "NoneType"
  | .bool _ => "bool"
  | .int _ => "int"
  | .str _ => "str"
  | .list _ => "list"
  | .tuple _ => "tuple"
  | .dict _ => "dict"
/-- the types that are asked for -/
def asked : List String := ["int", "bool", "str", "list", "tuple", "dict"]
def isT (T S : String) : Bool := T == S || (T == "int" && S == "bool")
def isiD (T : String) (d : PyData) : Bool := isT T (tyName d)
section
variable {X : Cx}
end
/-! ## heaps that grow -/
theorem Same.upd {H : Hp} {p : Addr} {o : HO} (h : H p = none) : Same H (upd H p o) := fun b u e => by rw [upd_ne (ne_of_none e h)]; exact e
theorem Same.get {H H' : Hp} (e : Same H H') {a : Addr} {o : HO} (h : H a = some o) : H' a = some o := e a o h
/-- all but one stands as it stood -/
def But (p : Addr) (H H' : Hp) : Prop := ∀ b o, b ≠ p → H b = some o → H' b = some o
theorem But.refl (p : Addr) (H : Hp) : But p H H := fun _ _ _ h => h
theorem But.trans {p : Addr} {H H1 H2 : Hp} (a : But p H H1) (b : But p H1 H2) : But p H H2 := fun c o n h => b c o n (a c o n h)
theorem But.of {p : Addr} {H H' : Hp} (e : Same H H') : But p H H' := fun b o _ h => e b o h
theorem But.set {p : Addr} {H : Hp} {o : HO} : But p H (upd H p o) := fun b u n h => by rw [upd_ne n]; exact h
theorem But.free {p : Addr} {H H' : Hp} (e : But p H H') {l : Addr} (n : l ≠ p) (h : H' l = none) : H l = none := by
  cases q : H l with
  | none => rfl
  | some o => rw [e l o n q] at h; cases h

/-! ## items and lengths of data -/
def itemsD : PyData → Option (List PyData)
  | .list xs => some xs
  | .tuple xs => some xs
  | _ => none
theorem rep_seq {K : PySem.W.Frag} {H : Hp} : ∀ {d : PyData} {v : V} {ds : List PyData}, Rep K H d v → itemsD d = some ds → ∃ a vs, v = .ref a ∧ (SqL K H a vs ∨ SqT K H a vs) ∧ RepAll K H ds vs
  | .list xs, v, ds, h, e => by
    obtain ⟨a, vs, h1, h2, h3⟩ := h
    cases e
    exact ⟨a, vs, h1, .inl h2, h3⟩
  | .tuple xs, v, ds, h, e => by
    obtain ⟨a, vs, h1, h2, h3⟩ := h
    cases e
    exact ⟨a, vs, h1, .inr h2, h3⟩
  | .none, _, _, _, e => by cases e
  | .bool _, _, _, _, e => by cases e
  | .int _, _, _, _, e => by cases e
  | .str _, _, _, _, e => by cases e
  | .dict _, _, _, _, e => by cases e

/-! ## what is walked: a list or a tuple -/
section
variable {X : Cx} {tg : Expr}
def iSeq (K : PySem.W.Frag) (tl : TE) : TI := fun σ H R => tl σ H fun x H1 => ∃ a, x = .ref a ∧ ((∃ xs, SqL K H1 a xs ∧ R (Itl K a) H1) ∨ (∃ xs, SqT K H1 a xs ∧ R (Itt K a) H1))
theorem pi_seq {l : Expr} {tl : TE} (hl : PE X l tl) : PI X tg l (iSeq X.K tl) := by
  intro pins s σ H R I h
  refine thn (hl pins s σ H _ I h) fun v s1 hz => ?_
  obtain ⟨x, H1, I1, r1, a, e, q1⟩ := hz
  subst e
  cases r1
  have fp : ∀ b ∈ [s1.heap.objs.size], FpOk X pins H1 b := fun b hb => by
    have e : b = s1.heap.objs.size := List.mem_singleton.mp hb
    subst e
    exact I1.fpOk (Nat.le_refl _) (I1.hok.fresh (Nat.le_refl _))
  rcases q1 with ⟨xs, hq, q⟩ | ⟨xs, hq, q⟩
  · obtain ⟨its, rv, p, hz⟩ := I1.list hq
    refine wpAny_pyIter_list p.isList ?_
    exact ⟨s1.heap.objs.size, [s1.heap.objs.size], _, _, H1, rfl, I1.kept (t' := s1.toks) fun b o e => Heap.get?_push_of_some _ e, turn_list a _, ⟨_, Heap.get?_push_size _ rfl, rfl, rfl⟩, fp, q⟩
  · obtain ⟨its, rv, p, hz⟩ := I1.tuple hq
    refine wpAny_pyIter_tuple (show s1.heap.IsTuple a its.toArray from p) ?_
    exact ⟨s1.heap.objs.size, [s1.heap.objs.size], _, _, H1, rfl, I1.kept (t' := s1.toks) fun b o e => Heap.get?_push_of_some _ e, turn_tuple a _, ⟨_, Heap.get?_push_size _ rfl, rfl, rfl⟩, fp, q⟩
end
/-- an iterator that gives the items xs, as long as Ok holds -/
structure Gives (J : It) (xs : List V) (Ok : Hp → Prop) : Prop where
  go : ∀ i H x, Ok H → xs[i]? = some x → J.go i H
  yld : ∀ i H x y H', Ok H → xs[i]? = some x → J.yld i H y H' → H' = H ∧ y = x
  stop : ∀ H, Ok H → J.stop xs.length H
end L2

end

section
set_option Elab.async false
set_option linter.all false
set_option maxRecDepth 100000
set_option maxHeartbeats 4000000
namespace L2
open PySem PySem.Spec PyProof.Rows
/-! # MIRRORS: a def's result as a total function over data and cells -/
/-- data (never changed), or a cell by its number -/
inductive CD where
  | d (x : PyData)
  | c (n : Nat)
/-- a cell: a list, a dict that may be changed; dead: nothing is known of it any more -/
inductive Cell where
  | lst (xs : List CD)
  | dk (kvs : List (Key × CD))
  | dt (kvs : List (List Key × CD))
  | obj (nm : Str) (fs : List (Str × CD))
  | exc (fr : Bool) (nm : Str) (fs : List (Str × CD))
  | dead
/-- the data's own part of the heap, the cells' addresses, their number -/
structure Wd where
  F : Hp
  α : Nat → Addr
  n : Nat
structure Wd.Ext (W W' : Wd) : Prop where
  ff : Same W.F W'.F
  ln : W.n ≤ W'.n
  al : ∀ i, i < W.n → W'.α i = W.α i
theorem Wd.Ext.refl (W : Wd) : W.Ext W := ⟨Same.refl _, Nat.le_refl _, fun _ _ => rfl⟩
theorem Wd.Ext.trans {W W1 W2 : Wd} (a : W.Ext W1) (b : W1.Ext W2) : W.Ext W2 := ⟨a.ff.trans b.ff, Nat.le_trans a.ln b.ln, fun i h => (b.al i (Nat.lt_of_lt_of_le h a.ln)).trans (a.al i h)⟩
def RepV (K : PySem.W.Frag) (W : Wd) : CD → V → Prop
  | .d x, v => Rep K W.F x v
  | .c i, v => i < W.n ∧ v = .ref (W.α i)
abbrev RepVs (K : PySem.W.Frag) (W : Wd) : List CD → List V → Prop := Paired (RepV K W)
def RepO (K : PySem.W.Frag) (W : Wd) : Option CD → Option V → Prop
  | none, none => True
  | some x, some v => RepV K W x v
  | _, _ => False
abbrev RepS (K : PySem.W.Frag) (W : Wd) : List (Option CD) → St → Prop := Paired (RepO K W)
/-- where the text's class of that name stands -/
def clOf (K : PySem.W.Frag) (nm : Str) : Addr := match PySem.W.nsIn K mainGlobals nm with
  | some (some (.ref C)) => C
  | _ => 0
/-- an exception: its class, its dict; fr: it was never raised -/
def ExcO (a : Addr) (c : Value) (dx : Option Addr) (fr : Bool) (h : Heap) : Prop := ∃ o vs, h.get? a = some o ∧ o.cls = c ∧ o.dict = dx ∧ o.data = .fields vs ∧ (fr = true → 1 < vs.size ∧ vs[1]? = some .none)
def RepX (K : PySem.W.Frag) (W : Wd) (dx : Option Addr) (fs : List (Str × CD)) : Prop := match dx with
  | none => fs = []
  | some d => fs ≠ [] ∧ ∃ us, W.F d = some (.xd us) ∧ Paired (fun p q => p.1 = q.1 ∧ RepV K W p.2 q.2) fs us
def RepC (K : PySem.W.Frag) (W : Wd) (a : Addr) : Cell → HO → Prop
  | .lst xs, .lst vs => RepVs K W xs vs
  | .dk kvs, .dK us => Paired (fun p q => p.1 = q.1 ∧ RepV K W p.2 q.2) kvs us
  | .dt kvs, .dT us => Paired (fun p q => p.1 = q.1 ∧ RepV K W p.2 q.2) kvs us
  | .obj nm fs, .ins C _ us => C = clOf K nm ∧ Paired (fun p q => p.1 = q.1 ∧ RepV K W p.2 q.2) fs us
  | .exc fr nm fs, .ext φ => ∃ dx, φ = ExcO a (.ref (clOf K nm)) dx fr ∧ RepX K W dx fs
  | _, _ => False
structure Good (K : PySem.W.Frag) (W : Wd) (M : List Cell) (H : Hp) : Prop where
  fh : Same W.F H
  n : W.n = M.length
  cs : ∀ i c, M[i]? = some c → c ≠ .dead → W.F (W.α i) = none ∧ ∃ o, H (W.α i) = some o ∧ RepC K W (W.α i) c o
  inj : ∀ i j c c', M[i]? = some c → M[j]? = some c' → c ≠ .dead → c' ≠ .dead → W.α i = W.α j → i = j
section
variable {K : PySem.W.Frag} {W W' : Wd} {M M' : List Cell} {H H' : Hp}
theorem RepV.up {x : CD} {v : V} (h : RepV K W x v) (e : W.Ext W') : RepV K W' x v := by
  cases x with
  | d x => exact Rep.same e.ff _ _ h
  | c i => exact ⟨Nat.lt_of_lt_of_le h.1 e.ln, by rw [e.al i h.1]; exact h.2⟩
theorem RepVs.up {xs : List CD} {vs : List V} (h : RepVs K W xs vs) (e : W.Ext W') : RepVs K W' xs vs := Paired.mapP h fun _ _ r => RepV.up r e
theorem RepS.up {γ : List (Option CD)} {σ : St} (h : RepS K W γ σ) (e : W.Ext W') : RepS K W' γ σ := Paired.mapP h fun a b r => by
  cases a <;> cases b
  · exact True.intro
  · exact False.elim r
  · exact False.elim r
  · exact RepV.up r e
theorem RepX.up {dx : Option Addr} {fs : List (Str × CD)} (h : RepX K W dx fs) (e : W.Ext W') : RepX K W' dx fs := by
  cases dx with
  | none => exact h
  | some d =>
    obtain ⟨h0, us, h1, h2⟩ := h
    exact ⟨h0, us, e.ff _ _ h1, Paired.mapP h2 fun _ _ r => ⟨r.1, RepV.up r.2 e⟩⟩
theorem RepC.up {a : Addr} {c : Cell} {o : HO} (h : RepC K W a c o) (e : W.Ext W') : RepC K W' a c o := by
  cases c <;> cases o <;> first | exact (let ⟨dx, h1, h2⟩ := h; ⟨dx, h1, h2.up e⟩) | exact False.elim h | exact RepVs.up h e | exact Paired.mapP h fun _ _ r => ⟨r.1, RepV.up r.2 e⟩ | exact ⟨h.1, Paired.mapP h.2 fun _ _ r => ⟨r.1, RepV.up r.2 e⟩⟩
/-- a new piece of data -/
theorem Good.lay (g : Good K W M H) {p : Addr} {o : HO} (hp : H p = none) : W.Ext { W with F := upd W.F p o } ∧ Good K { W with F := upd W.F p o } M (upd H p o) := by
  have fp : W.F p = none := g.fh.free hp
  have e : W.Ext { W with F := upd W.F p o } := ⟨Same.upd fp, Nat.le_refl _, fun _ _ => rfl⟩
  refine ⟨e, ?_, g.n, fun i c hi hc => ?_, g.inj⟩
  · intro b u hb
    have hb : upd W.F p o b = some u := hb
    by_cases q : b = p
    · subst q; rw [upd_same] at hb; rw [upd_same]; exact hb
    · rw [upd_ne q] at hb
      rw [upd_ne q]; exact g.fh b u hb
  · obtain ⟨h1, o', h2, h3⟩ := g.cs i c hi hc
    have ne : W.α i ≠ p := ne_of_none h2 hp
    exact ⟨by show upd W.F p o (W.α i) = none; rw [upd_ne ne]; exact h1, o', by rw [upd_ne ne]; exact h2, h3.up e⟩
/-- a new cell -/
def Wd.more (W : Wd) (p : Addr) : Wd := { W with α := fun i => if i = W.n then p else W.α i, n := W.n + 1 }
theorem Wd.ext_more (W : Wd) (p : Addr) : W.Ext (W.more p) := ⟨Same.refl _, Nat.le_succ _, fun i h => if_neg (Nat.ne_of_lt h)⟩
theorem Good.new (g : Good K W M H) {p : Addr} {c : Cell} {o : HO} (hp : H p = none) (r : RepC K W p c o) : Good K (W.more p) (M ++ [c]) (upd H p o) := by
  have e := W.ext_more p
  have at_ : ∀ i c', (M ++ [c])[i]? = some c' → (i < M.length ∧ M[i]? = some c') ∨ (i = M.length ∧ c' = c) := fun i c' h => by
    by_cases q : i < M.length
    · rw [List.getElem?_append_left q] at h; exact .inl ⟨q, h⟩
    · rw [List.getElem?_append_right (Nat.le_of_not_lt q)] at h
      have h' : i - M.length = 0 := by
        cases k : i - M.length with
        | zero => rfl
        | succ m => rw [k] at h; simp at h
      rw [h'] at h
      refine .inr ⟨by omega, ?_⟩
      simpa using h.symm
  have al : ∀ i, i < M.length → (W.more p).α i = W.α i := fun i h => e.al i (by rw [g.n]; exact h)
  have an : (W.more p).α M.length = p := by show (if M.length = W.n then p else _) = p; rw [if_pos g.n.symm]
  have nep : ∀ i c', M[i]? = some c' → c' ≠ .dead → W.α i ≠ p := fun i c' h hc => by
    obtain ⟨_, o', h2, _⟩ := g.cs i c' h hc
    exact ne_of_none h2 hp
  refine ⟨?_, ?_, fun i c' hi hc => ?_, fun i j c1 c2 hi hj d1 d2 he => ?_⟩
  · intro b u hb
    have := g.fh b u hb
    rw [upd_ne (ne_of_none this hp)]; exact this
  · show W.n + 1 = _
    rw [g.n, List.length_append]; rfl
  · rcases at_ i c' hi with ⟨q, h⟩ | ⟨rfl, rfl⟩
    · obtain ⟨h1, o', h2, h3⟩ := g.cs i c' h hc
      rw [al i q]
      exact ⟨h1, o', by rw [upd_ne (nep i c' h hc)]; exact h2, h3.up e⟩
    · rw [an]
      exact ⟨g.fh.free hp, o, upd_same, r.up e⟩
  · rcases at_ i c1 hi with ⟨q, h⟩ | ⟨rfl, rfl⟩
    · rcases at_ j c2 hj with ⟨q', h'⟩ | ⟨rfl, rfl⟩
      · rw [al i q, al j q'] at he
        exact g.inj i j c1 c2 h h' d1 d2 he
      · rw [al i q, an] at he
        exact absurd he (nep i c1 h d1)
    · rcases at_ j c2 hj with ⟨q', h'⟩ | ⟨rfl, rfl⟩
      · rw [an, al j q'] at he
        exact absurd he.symm (nep j c2 h' d2)
      · rfl
/-- a cell is changed -/
theorem Good.set (g : Good K W M H) {i : Nat} {c c' : Cell} {o' : HO} (hi : M[i]? = some c) (hc : c ≠ .dead) (r : RepC K W (W.α i) c' o') : Good K W (M.set i c') (upd H (W.α i) o') := by
  obtain ⟨h1, o, h2, h3⟩ := g.cs i c hi hc
  have lt : i < M.length := (List.getElem?_eq_some_iff.mp hi).1
  have at_ : ∀ j d, (M.set i c')[j]? = some d → (j = i ∧ d = c') ∨ (j ≠ i ∧ M[j]? = some d) := fun j d h => by
    by_cases q : i = j
    · subst q; rw [List.getElem?_set_self lt] at h; exact .inl ⟨rfl, (Option.some.inj h).symm⟩
    · rw [List.getElem?_set_ne q] at h; exact .inr ⟨fun z => q z.symm, h⟩
  refine ⟨?_, by rw [g.n, List.length_set], fun j d hj hd => ?_, fun j k d1 d2 hj hk e1 e2 he => ?_⟩
  · intro b u hb
    rw [upd_ne (ne_of_none hb h1)]; exact g.fh b u hb
  · rcases at_ j d hj with ⟨rfl, rfl⟩ | ⟨q, h⟩
    · exact ⟨h1, o', upd_same, r⟩
    · obtain ⟨k1, u, k2, k3⟩ := g.cs j d h hd
      have ne : W.α j ≠ W.α i := fun z => q (g.inj j i d c h hi hd hc z)
      exact ⟨k1, u, by rw [upd_ne ne]; exact k2, k3⟩
  · rcases at_ j d1 hj with ⟨rfl, rfl⟩ | ⟨q, h⟩ <;> rcases at_ k d2 hk with ⟨rfl, rfl⟩ | ⟨q', h'⟩
    · rfl
    · exact g.inj _ k c d2 hi h' hc e2 he
    · exact g.inj j _ d1 c h hi e1 hc he
    · exact g.inj j k d1 d2 h h' e1 e2 he
end
end L2

end

section
set_option Elab.async false
set_option linter.all false
set_option maxRecDepth 100000
set_option maxHeartbeats 4000000
namespace L2
open PySem PySem.Spec PyProof.Rows
abbrev Ga := List (Option CD)
abbrev Sto := List Cell
abbrev EF := Ga → Sto → Option (CD × Sto)
abbrev TF := Ga → Sto → Option (Bool × Sto)
abbrev AF := Ga → Sto → Option (List CD × Sto)
inductive Out where
  | nx (γ : Ga) | bk (γ : Ga) | ct (γ : Ga) | rt (x : CD)
abbrev SF := Ga → Sto → Option (Out × Sto)
abbrev GF := CD → Ga → Sto → Option (Ga × Sto)
abbrev GsF := List CD → Ga → Sto → Option (Ga × Sto)
abbrev F1 := CD → Sto → Option (CD × Sto)
abbrev F2 := CD → CD → Sto → Option (CD × Sto)
abbrev FN := List CD → Sto → Option (CD × Sto)
section
variable (K : PySem.W.Frag)
def SE (t : TE) (f : EF) : Prop := ∀ γ M x M', f γ M = some (x, M') → ∀ (W : Wd) (H : Hp) (σ : St) (Q : VK), Good K W M H → RepS K W γ σ → (∀ v W' H', W.Ext W' → Good K W' M' H' → RepV K W' x v → Q v H') → t σ H Q
def STt (t : TT) (f : TF) : Prop := ∀ γ M b M', f γ M = some (b, M') → ∀ (W : Wd) (H : Hp) (σ : St) (Q : Bool → Hp → Prop), Good K W M H → RepS K W γ σ → (∀ W' H', W.Ext W' → Good K W' M' H' → Q b H') → t σ H Q
def SA (t : TA) (f : AF) : Prop := ∀ γ M xs M', f γ M = some (xs, M') → ∀ (W : Wd) (H : Hp) (σ : St) (Q : List V → Hp → Prop), Good K W M H → RepS K W γ σ → (∀ vs W' H', W.Ext W' → Good K W' M' H' → RepVs K W' xs vs → Q vs H') → t σ H Q
def OutOk (D : Ends) (W : Wd) (H : Hp) : Out → Prop
  | .nx γ => ∀ σ, RepS K W γ σ → D.nx σ H
  | .bk γ => ∀ σ, RepS K W γ σ → D.bk σ H
  | .ct γ => ∀ σ, RepS K W γ σ → D.ct σ H
  | .rt x => ∀ v, RepV K W x v → D.rt v H
def SS (t : TS) (f : SF) : Prop := ∀ γ M o M', f γ M = some (o, M') → ∀ (W : Wd) (H : Hp) (σ : St) (D : Ends), Good K W M H → RepS K W γ σ → (∀ W' H', W.Ext W' → Good K W' M' H' → OutOk K D W' H' o) → t D σ H
def SG (t : TG) (f : GF) : Prop := ∀ x γ M γ' M', f x γ M = some (γ', M') → ∀ (W : Wd) (H : Hp) (σ : St) (v : V) (Q : St → Hp → Prop), Good K W M H → RepS K W γ σ → RepV K W x v → (∀ σ' W' H', W.Ext W' → Good K W' M' H' → RepS K W' γ' σ' → Q σ' H') → t v σ H Q
def SGs (t : TGs) (f : GsF) : Prop := ∀ xs γ M γ' M', f xs γ M = some (γ', M') → ∀ (W : Wd) (H : Hp) (σ : St) (vs : List V) (Q : St → Hp → Prop), Good K W M H → RepS K W γ σ → RepVs K W xs vs → (∀ σ' W' H', W.Ext W' → Good K W' M' H' → RepS K W' γ' σ' → Q σ' H') → t vs σ H Q
/-- primitives -/
def P2 (r : R2) (f : F2) : Prop := ∀ x y M z M', f x y M = some (z, M') → ∀ (W : Wd) (H : Hp) (v u : V) (Q : VK), Good K W M H → RepV K W x v → RepV K W y u → (∀ w W' H', W.Ext W' → Good K W' M' H' → RepV K W' z w → Q w H') → r v u H Q
def P1 (r : V → Hp → VK → Prop) (f : F1) : Prop := ∀ x M z M', f x M = some (z, M') → ∀ (W : Wd) (H : Hp) (v : V) (Q : VK), Good K W M H → RepV K W x v → (∀ w W' H', W.Ext W' → Good K W' M' H' → RepV K W' z w → Q w H') → r v H Q
def PN (r : List V → Hp → VK → Prop) (f : FN) : Prop := ∀ xs M z M', f xs M = some (z, M') → ∀ (W : Wd) (H : Hp) (vs : List V) (Q : VK), Good K W M H → RepVs K W xs vs → (∀ w W' H', W.Ext W' → Good K W' M' H' → RepV K W' z w → Q w H') → r vs H Q
/-- a def's promise by its mirror -/
def spM (f : FN) : Sp := fun vs H Q _ => ∃ xs M W y M', Good K W M H ∧ RepVs K W xs vs ∧ f xs M = some (y, M') ∧ ∀ v W' H', W.Ext W' → Good K W' M' H' → RepV K W' y v → Q v H'
end
/-! ### the functions -/
def fVar (i : Nat) : EF := fun γ M => match γ[i]? with
  | some (some x) => some (x, M)
  | _ => none
def fC (x : PyData) : EF := fun _ M => some (.d x, M)
def fOp (h : F2) (f g : EF) : EF := fun γ M => (f γ M).bind fun r => (g γ r.2).bind fun q => h r.1 q.1 q.2
def fUn (h : F1) (f : EF) : EF := fun γ M => (f γ M).bind fun r => h r.1 r.2
def asB : CD → Option Bool
  | .d (.bool b) => some b
  | _ => none
def fAnd (f g : EF) : EF := fun γ M => (f γ M).bind fun r => (asB r.1).bind fun b => if b = true then g γ r.2 else some (.d (.bool false), r.2)
def fOr (f g : EF) : EF := fun γ M => (f γ M).bind fun r => (asB r.1).bind fun b => if b = true then some (.d (.bool true), r.2) else g γ r.2
def fNot (f : EF) : EF := fun γ M => (f γ M).bind fun r => (asB r.1).bind fun b => some (.d (.bool (!b)), r.2)
def fIf (t : TF) (f g : EF) : EF := fun γ M => (t γ M).bind fun r => if r.1 = true then f γ r.2 else g γ r.2
def gAnd (f g : TF) : TF := fun γ M => (f γ M).bind fun r => if r.1 = true then g γ r.2 else some (false, r.2)
def gOr (f g : TF) : TF := fun γ M => (f γ M).bind fun r => if r.1 = true then some (true, r.2) else g γ r.2
def gNot (f : TF) : TF := fun γ M => (f γ M).bind fun r => some (!r.1, r.2)
def gB (f : EF) : TF := fun γ M => (f γ M).bind fun r => (asB r.1).bind fun b => some (b, r.2)
def fChain (h h' : F2) (f g e : EF) : EF := fun γ M => (f γ M).bind fun r => (g γ r.2).bind fun q => (h r.1 q.1 q.2).bind fun z => (asB z.1).bind fun b => if b = true then (e γ z.2).bind fun w => h' q.1 w.1 w.2 else some (.d (.bool false), z.2)
def fNil : AF := fun _ M => some ([], M)
def fCons (f : EF) (g : AF) : AF := fun γ M => (f γ M).bind fun r => (g γ r.2).bind fun q => some (r.1 :: q.1, q.2)
def allD : List CD → Option (List PyData)
  | [] => some []
  | .d x :: r => (allD r).map (x :: ·)
  | .c _ :: _ => none
def fTup (f : AF) : EF := fun γ M => (f γ M).bind fun r => (allD r.1).bind fun ds => if ds.length ≤ sizeLine then some (.d (.tuple ds), r.2) else none
def fLst (f : AF) : EF := fun γ M => (f γ M).bind fun r => (allD r.1).bind fun ds => if ds.length ≤ sizeLine then some (.d (.list ds), r.2) else none
/-- a list that may be changed -/
def fNew (f : AF) : EF := fun γ M => (f γ M).bind fun r => if r.1.length ≤ sizeLine then some (.c r.2.length, r.2 ++ [.lst r.1]) else none
def fCall (h : FN) (f : AF) : EF := fun γ M => (f γ M).bind fun r => h r.1 r.2
def sNext : SF := fun γ M => some (.nx γ, M)
def sSeq (f g : SF) : SF := fun γ M => (f γ M).bind fun r => match r.1 with
  | .nx γ' => g γ' r.2
  | o => some (o, r.2)
def sDrop (f : EF) : SF := fun γ M => (f γ M).bind fun r => some (.nx γ, r.2)
def sRet (f : EF) : SF := fun γ M => (f γ M).bind fun r => some (.rt r.1, r.2)
def sRetN : SF := fun _ M => some (.rt (.d .none), M)
def sIf (c : TF) (f g : SF) : SF := fun γ M => (c γ M).bind fun r => if r.1 = true then f γ r.2 else g γ r.2
def sAsg (f : EF) (g : GF) : SF := fun γ M => (f γ M).bind fun r => (g r.1 γ r.2).bind fun q => some (.nx q.1, q.2)
def hName (i : Nat) : GF := fun x γ M => some (γ.set i (some x), M)
def hNil : GsF := fun xs γ M => match xs with
  | [] => some (γ, M)
  | _ => none
def hCons (f : GF) (g : GsF) : GsF := fun xs γ M => match xs with
  | x :: r => (f x γ M).bind fun q => g r q.1 q.2
  | [] => none
def hTup (n : Nat) (g : GsF) : GF := fun x γ M => match x with
  | .d (.tuple ds) => if ds.length = n then g (ds.map .d) γ M else none
  | _ => none
abbrev F3 := CD → CD → CD → Sto → Option Sto
def hSub (fo fi : EF) (s : F3) : GF := fun x γ M => (fo γ M).bind fun r => (fi γ r.2).bind fun q => (s r.1 q.1 x q.2).bind fun M' => some (γ, M')
/-- a loop over what is walked -/
def forF (g : GF) (b : SF) : List CD → Ga → Sto → Option (Out × Sto)
  | [], γ, M => some (.nx γ, M)
  | x :: xs, γ, M => (g x γ M).bind fun r => (b r.1 r.2).bind fun q => match q.1 with
    | .nx γ' => forF g b xs γ' q.2
    | .ct γ' => forF g b xs γ' q.2
    | .bk γ' => some (.nx γ', q.2)
    | .rt x => some (.rt x, q.2)
def sFor (f : AF) (g : GF) (b : SF) : SF := fun γ M => (f γ M).bind fun r => forF g b r.1 γ r.2
def lcF (g : GF) (c : TF) (e : EF) : List CD → Ga → Sto → Option (List CD × Sto)
  | [], γ, M => some ([], M)
  | x :: xs, γ, M => (g x γ M).bind fun a => (c a.1 a.2).bind fun b => if b.1 = true then (e a.1 b.2).bind fun r => (lcF g c e xs a.1 r.2).bind fun q => some (r.1 :: q.1, q.2) else lcF g c e xs a.1 b.2
def capG (cap : List (Option Nat)) (γ : Ga) : Ga := cap.map fun o => o.bind fun j => (γ[j]?).join
def gYes : TF := fun _ M => some (true, M)
def lcRun (cap : List (Option Nat)) (f : AF) (g : GF) (c : TF) (e : EF) : AF := fun γ M => (f γ M).bind fun r => if r.1.length ≤ sizeLine then lcF g c e r.1 (capG cap γ) r.2 else none
def fLc (cap : List (Option Nat)) (f : AF) (g : GF) (c : TF) (e : EF) : EF := fLst (lcRun cap f g c e)
def fnF (ps N : Nat) (b : SF) : FN := fun xs M => if xs.length = ps then (b (xs.map some ++ List.replicate (N - xs.length) none) M).bind fun r => match r.1 with
  | .rt x => some (x, r.2)
  | .nx _ => some (.d .none, r.2)
  | _ => none else none
end L2

end

section
set_option Elab.async false
set_option linter.all false
set_option maxRecDepth 100000
set_option maxHeartbeats 4000000
namespace L2
open PySem PySem.Spec PyProof.Rows
theorem bindE {α β : Type} {o : Option α} {k : α → Option β} {r : β} (h : o.bind k = some r) : ∃ a, o = some a ∧ k a = some r := by
  cases o with
  | none => cases h
  | some a => exact ⟨a, rfl, h⟩
theorem Paired.get {α β : Type} {R : α → β → Prop} : ∀ {xs : List α} {ys : List β} {i : Nat} {x : α}, Paired R xs ys → xs[i]? = some x → ∃ y, ys[i]? = some y ∧ R x y
  | _, _, _, _, .nil, e => by simp at e
  | _, _, 0, _, .cons r _, e => by simp at e; subst e; exact ⟨_, rfl, r⟩
  | _, _, i + 1, x, .cons _ t, e => by
    obtain ⟨u, h1, h2⟩ := Paired.get (i := i) (x := x) t (by simpa using e)
    exact ⟨u, by simpa using h1, h2⟩
theorem Paired.set {α β : Type} {R : α → β → Prop} {x : α} {y : β} (r : R x y) : ∀ {xs : List α} {ys : List β} (i : Nat), Paired R xs ys → Paired R (xs.set i x) (ys.set i y)
  | _, _, _, .nil => .nil
  | _, _, 0, .cons _ t => .cons r t
  | _, _, i + 1, .cons q t => .cons q (Paired.set r i t)
theorem Paired.app {α β : Type} {R : α → β → Prop} : ∀ {xs xs' : List α} {ys ys' : List β}, Paired R xs ys → Paired R xs' ys' → Paired R (xs ++ xs') (ys ++ ys')
  | _, _, _, _, .nil, s => s
  | _, _, _, _, .cons r t, s => .cons r (Paired.app t s)
theorem Paired.len {α β : Type} {R : α → β → Prop} {xs : List α} {ys : List β} (p : Paired R xs ys) : xs.length = ys.length := Paired.length p
section
variable {K : PySem.W.Frag}
theorem repAll_of {W : Wd} : ∀ {xs : List CD} {ds : List PyData} {vs : List V}, allD xs = some ds → RepVs K W xs vs → RepAll K W.F ds vs
  | [], ds, vs, e, h => by
    cases e
    cases h
    rfl
  | .c _ :: _, ds, vs, e, h => by cases e
  | .d x :: r, ds, vs, e, h => by
    cases h with
    | @cons _ v _ vs' h1 h2 =>
      unfold allD at e
      cases q : allD r with
      | none => rw [q] at e; cases e
      | some es =>
        rw [q] at e
        cases e
        exact ⟨v, vs', rfl, h1, repAll_of q h2⟩
theorem repVs_of {W : Wd} : ∀ {ds : List PyData} {vs : List V}, RepAll K W.F ds vs → RepVs K W (ds.map .d) vs
  | [], vs, h => by rw [show vs = [] from h]; exact .nil
  | d :: ds, vs, h => by
    obtain ⟨v, r, rfl, h1, h2⟩ := h
    exact .cons h1 (repVs_of h2)
theorem allD_len : ∀ {xs : List CD} {ds : List PyData}, allD xs = some ds → ds.length = xs.length
  | [], ds, e => by cases e; rfl
  | .c _ :: _, ds, e => by cases e
  | .d x :: r, ds, e => by
    unfold allD at e
    cases q : allD r with
    | none => rw [q] at e; cases e
    | some es =>
      rw [q] at e
      cases e
      rw [List.length_cons, List.length_cons, allD_len q]
/-! ### expressions -/
theorem se_var {i : Nat} : SE K (tVar i) (fVar i) := by
  intro γ M x M' h W H σ Q g r k
  unfold fVar at h
  cases e : γ[i]? with
  | none => rw [e] at h; cases h
  | some o =>
    cases o with
    | none => rw [e] at h; cases h
    | some y =>
      rw [e] at h
      cases h
      obtain ⟨v, hv, rv⟩ := Paired.get r e
      cases v with
      | none => exact False.elim rv
      | some v => exact ⟨v, hv, k v W H (.refl _) g rv⟩
theorem se_int {i : Int} : SE K (tC (.int i)) (fC (.int i)) := by
  intro γ M x M' h W H σ Q g r k
  cases h
  exact k _ W H (.refl _) g rfl
theorem se_bl {b : Bool} : SE K (tC (.bl b)) (fC (.bool b)) := by
  intro γ M x M' h W H σ Q g r k
  cases h
  exact k _ W H (.refl _) g rfl
variable {ta tb tc : TE} {f g e : EF} {tt uu : TT} {ft gt : TF} {tA : TA} {fa : AF}
theorem se_op {r : R2} {h : F2} (p : P2 K r h) (a : SE K ta f) (b : SE K tb g) : SE K (tOp r ta tb) (fOp h f g) := by
  intro γ M x M' hh W H σ Q G R k
  obtain ⟨⟨y, M1⟩, h1, hh⟩ := bindE hh
  obtain ⟨⟨z, M2⟩, h2, hh⟩ := bindE hh
  refine a _ _ _ _ h1 W H σ _ G R fun v W1 H1 e1 G1 r1 => ?_
  refine b _ _ _ _ h2 W1 H1 σ _ G1 (R.up e1) fun u W2 H2 e2 G2 r2 => ?_
  exact p _ _ _ _ _ hh W2 H2 v u Q G2 (r1.up e2) r2 fun w W3 H3 e3 G3 r3 => k w W3 H3 ((e1.trans e2).trans e3) G3 r3
theorem asB_of {x : CD} {b : Bool} (h : asB x = some b) : x = .d (.bool b) := by
  cases x with
  | c n => cases h
  | d x => cases x <;> first | cases h; rfl | cases h
/-! ### tests -/
theorem st_or (a : STt K tt ft) (b : STt K uu gt) : STt K (tOr tt uu) (gOr ft gt) := by
  intro γ M x M' hh W H σ Q G R k
  obtain ⟨⟨c, M1⟩, h1, hh⟩ := bindE hh
  refine a _ _ _ _ h1 W H σ _ G R fun W1 H1 e1 G1 => ?_
  cases c with
  | true => rw [if_pos rfl]; rw [if_pos rfl] at hh; cases hh; exact k W1 H1 e1 G1
  | false => rw [if_neg Bool.false_ne_true]; rw [if_neg Bool.false_ne_true] at hh; exact b _ _ _ _ hh W1 H1 σ Q G1 (R.up e1) fun W3 H3 e3 G3 => k W3 H3 (e1.trans e3) G3
theorem st_not (a : STt K tt ft) : STt K (tNot tt) (gNot ft) := by
  intro γ M x M' hh W H σ Q G R k
  obtain ⟨⟨c, M1⟩, h1, hh⟩ := bindE hh
  cases hh
  exact a _ _ _ _ h1 W H σ _ G R fun W1 H1 e1 G1 => k W1 H1 e1 G1
theorem st_b (a : SE K ta f) : STt K (tB ta) (gB f) := by
  intro γ M x M' hh W H σ Q G R k
  obtain ⟨⟨y, M1⟩, h1, hh⟩ := bindE hh
  obtain ⟨c, h2, hh⟩ := bindE hh
  refine a _ _ _ _ h1 W H σ _ G R fun v W1 H1 e1 G1 r1 => ?_
  have hy : y = _ := asB_of h2
  subst hy
  cases hh
  exact ⟨_, r1, k W1 H1 e1 G1⟩
theorem st_test (a : SE K ta f) : STt K (tTest ta) (gB f) := st_b a
/-! ### arguments, displays, calls -/
theorem sa_nil : SA K tNil fNil := by
  intro γ M x M' hh W H σ Q G R k
  cases hh
  exact k [] W H (.refl _) G .nil
theorem sa_cons (a : SE K ta f) (b : SA K tA fa) : SA K (tCons ta tA) (fCons f fa) := by
  intro γ M x M' hh W H σ Q G R k
  obtain ⟨⟨y, M1⟩, h1, hh⟩ := bindE hh
  obtain ⟨⟨ys, M2⟩, h2, hh⟩ := bindE hh
  cases hh
  refine a _ _ _ _ h1 W H σ _ G R fun v W1 H1 e1 G1 r1 => ?_
  exact b _ _ _ _ h2 W1 H1 σ _ G1 (R.up e1) fun vs W2 H2 e2 G2 r2 => k _ W2 H2 (e1.trans e2) G2 (.cons (r1.up e2) r2)
theorem se_lst (b : SA K tA fa) : SE K (tLst tA) (fLst fa) := by
  intro γ M x M' hh W H σ Q G R k
  obtain ⟨⟨ys, M1⟩, h1, hh⟩ := bindE hh
  obtain ⟨ds, h2, hh⟩ := bindE hh
  by_cases hl : ds.length ≤ sizeLine
  · rw [if_pos hl] at hh
    cases hh
    refine b _ _ _ _ h1 W H σ _ G R fun vs W1 H1 e1 G1 r1 => ?_
    have ra := repAll_of h2 r1
    refine ⟨by rw [← ra.length]; exact hl, fun p hp => ?_⟩
    obtain ⟨e2, G2⟩ := G1.lay (o := .lst vs) hp
    exact k _ _ _ (e1.trans e2) G2 ⟨p, vs, rfl, SqL.of upd_same, RepAll.same e2.ff _ _ ra⟩
  · rw [if_neg hl] at hh; cases hh
theorem Good.newV {W : Wd} {M : Sto} {H : Hp} (g : Good K W M H) {p : Addr} : RepV K (W.more p) (.c M.length) (.ref p) := by
  refine ⟨?_, ?_⟩
  · show M.length < W.n + 1
    rw [g.n]; exact Nat.lt_succ_self _
  · show V.ref p = .ref (if M.length = W.n then p else W.α M.length)
    rw [if_pos g.n.symm]
theorem se_new (b : SA K tA fa) : SE K (tLst tA) (fNew fa) := by
  intro γ M x M' hh W H σ Q G R k
  obtain ⟨⟨ys, M1⟩, h1, hh⟩ := bindE hh
  by_cases hl : ys.length ≤ sizeLine
  · have hh : (if ys.length ≤ sizeLine then some (CD.c M1.length, M1 ++ [Cell.lst ys]) else none) = some (x, M') := hh
    rw [if_pos hl] at hh
    cases hh
    refine b _ _ _ _ h1 W H σ _ G R fun vs W1 H1 e1 G1 r1 => ?_
    refine ⟨by rw [← Paired.len r1]; exact hl, fun p hp => ?_⟩
    exact k _ _ _ (e1.trans (W1.ext_more p)) (G1.new hp (c := .lst ys) (o := .lst vs) r1) G1.newV
  · have hh : (if ys.length ≤ sizeLine then some (CD.c M1.length, M1 ++ [Cell.lst ys]) else none) = some (x, M') := hh
    rw [if_neg hl] at hh; cases hh
theorem se_call {h : FN} (b : SA K tA fa) : SE K (tCall (spM K h) [] E0 tA) (fCall h fa) := by
  intro γ M x M' hh W H σ Q G R k
  obtain ⟨⟨ys, M1⟩, h1, hh⟩ := bindE hh
  refine b _ _ _ _ h1 W H σ _ G R fun vs W1 H1 e1 G1 r1 => ?_
  rw [List.append_nil]
  exact ⟨ys, M1, W1, x, M', G1, r1, hh, fun v W2 H2 e2 G2 r2 => k v W2 H2 (e1.trans e2) G2 r2⟩
end
end L2

end

section
set_option Elab.async false
set_option linter.all false
set_option maxRecDepth 100000
set_option maxHeartbeats 4000000
namespace L2
open PySem PySem.Spec PyProof.Rows
section
variable {K : PySem.W.Frag} {ta tb tc : TE} {f g e : EF} {tt uu : TT} {ft gt : TF} {tA : TA} {fa : AF} {t u : TS} {p q : SF} {tg : TG} {hg : GF} {tgs : TGs} {hgs : GsF}
theorem ss_next : SS K tNext sNext := by
  intro γ M o M' hh W H σ D G R k
  cases hh
  exact k W H (.refl _) G σ R
theorem ss_seq (a : SS K t p) (b : SS K u q) : SS K (tSeq t u) (sSeq p q) := by
  intro γ M o M' hh W H σ D G R k
  obtain ⟨⟨o1, M1⟩, h1, hh⟩ := bindE hh
  refine a _ _ _ _ h1 W H σ _ G R fun W1 H1 e1 G1 => ?_
  cases o1 with
  | nx γ1 =>
    intro σ1 R1
    exact b _ _ _ _ hh W1 H1 σ1 D G1 R1 fun W2 H2 e2 G2 => k W2 H2 (e1.trans e2) G2
  | bk γ1 => cases hh; exact k W1 H1 e1 G1
  | ct γ1 => cases hh; exact k W1 H1 e1 G1
  | rt x => cases hh; exact k W1 H1 e1 G1
theorem ss_ret (a : SE K ta f) : SS K (tRet ta) (sRet f) := by
  intro γ M o M' hh W H σ D G R k
  obtain ⟨⟨y, M1⟩, h1, hh⟩ := bindE hh
  cases hh
  exact a _ _ _ _ h1 W H σ _ G R fun v W1 H1 e1 G1 r1 => k W1 H1 e1 G1 v r1
theorem ss_if (c : STt K tt ft) (a : SS K t p) (b : SS K u q) : SS K (tIfS tt t u) (sIf ft p q) := by
  intro γ M o M' hh W H σ D G R k
  obtain ⟨⟨c1, M1⟩, h1, hh⟩ := bindE hh
  refine c _ _ _ _ h1 W H σ _ G R fun W1 H1 e1 G1 => ?_
  cases c1 with
  | true => rw [if_pos rfl]; rw [if_pos rfl] at hh; exact a _ _ _ _ hh W1 H1 σ D G1 (R.up e1) fun W3 H3 e3 G3 => k W3 H3 (e1.trans e3) G3
  | false => rw [if_neg Bool.false_ne_true]; rw [if_neg Bool.false_ne_true] at hh; exact b _ _ _ _ hh W1 H1 σ D G1 (R.up e1) fun W3 H3 e3 G3 => k W3 H3 (e1.trans e3) G3
theorem ss_asg (a : SE K ta f) (b : SG K tg hg) : SS K (tAsg ta tg) (sAsg f hg) := by
  intro γ M o M' hh W H σ D G R k
  obtain ⟨⟨y, M1⟩, h1, hh⟩ := bindE hh
  obtain ⟨⟨γ1, M2⟩, h2, hh⟩ := bindE hh
  cases hh
  refine a _ _ _ _ h1 W H σ _ G R fun v W1 H1 e1 G1 r1 => ?_
  exact b _ _ _ _ _ h2 W1 H1 σ v _ G1 (R.up e1) r1 fun σ' W2 H2 e2 G2 R2 => k W2 H2 (e1.trans e2) G2 σ' R2
theorem RepS.set {W : Wd} {γ : Ga} {σ : St} {x : CD} {v : V} (R : RepS K W γ σ) (i : Nat) (r : RepV K W x v) : RepS K W (γ.set i (some x)) (σ.set i (some v)) := Paired.set (R := RepO K W) (show RepO K W (some x) (some v) from r) i R
theorem sg_name {i : Nat} : SG K (gName i) (hName i) := by
  intro x γ M γ' M' hh W H σ v Q G R r k
  cases hh
  exact k _ W H (.refl _) G (RepS.set R i r)
/-- stores into a list -/
def P3 (K : PySem.W.Frag) (r : V → V → V → Hp → (Hp → Prop) → Prop) (f : F3) : Prop := ∀ x y z M M', f x y z M = some M' → ∀ (W : Wd) (H : Hp) (v u w : V) (Q : Hp → Prop), Good K W M H → RepV K W x v → RepV K W y u → RepV K W z w → (∀ W' H', W.Ext W' → Good K W' M' H' → Q H') → r v u w H Q
/-! ### what is walked -/
def GivesW (K : PySem.W.Frag) (J : It) (xs : List CD) (W : Wd) : Prop := ∀ W' M' H', W.Ext W' → Good K W' M' H' →
  (∀ i x, xs[i]? = some x → J.go i H' ∧ ∀ y H'', J.yld i H' y H'' → H'' = H' ∧ RepV K W' x y) ∧ J.stop xs.length H'
def SI (K : PySem.W.Frag) (wi : TI) (f : AF) : Prop := ∀ γ M xs M', f γ M = some (xs, M') → ∀ (W : Wd) (H : Hp) (σ : St) (R : It → Hp → Prop), Good K W M H → RepS K W γ σ → (∀ J W' H', W.Ext W' → Good K W' M' H' → GivesW K J xs W' → R J H') → wi σ H R
def fItems (f : EF) : AF := fun γ M => (f γ M).bind fun r => match r.1 with
  | .d x => (itemsD x).bind fun ds => some (ds.map .d, r.2)
  | _ => none
theorem si_seq (a : SE K ta f) : SI K (iSeq K ta) (fItems f) := by
  intro γ M xs M' hh W H σ R G Rs k
  obtain ⟨⟨y, M1⟩, h1, hh⟩ := bindE hh
  cases y with
  | c _ => cases hh
  | d y =>
    obtain ⟨ds, h2, hh⟩ := bindE (show (itemsD y).bind _ = _ from hh)
    cases hh
    refine a _ _ _ _ h1 W H σ _ G Rs fun v W1 H1 e1 G1 r1 => ?_
    obtain ⟨p, vs, rfl, hs, hr⟩ := rep_seq (show Rep K W1.F y v from r1) h2
    refine ⟨p, rfl, ?_⟩
    have item : ∀ (i : Nat) (x : CD) (W2 : Wd), W1.Ext W2 → (ds.map CD.d)[i]? = some x → ∃ u, vs[i]? = some u ∧ RepV K W2 x u := fun i x W2 e2 hx => by
      obtain ⟨u, hu, ru⟩ := Paired.get (repVs_of hr) hx
      exact ⟨u, hu, ru.up e2⟩
    have hlen : (ds.map CD.d).length = vs.length := by rw [List.length_map]; exact hr.length
    rcases hs with hs | hs
    · refine .inl ⟨vs, G1.fh.seq hs, k _ W1 H1 e1 G1 fun W2 M2 H2 e2 G2 => ?_⟩
      have hs2 : SqL K H2 p vs := G2.fh.seq (e2.ff.seq hs)
      refine ⟨fun i x hx => ?_, ?_⟩
      · obtain ⟨u, hu, ru⟩ := item i x W2 e2 hx
        refine ⟨⟨vs, u, hs2, hu⟩, fun y' H'' hy => ⟨hy.1, ?_⟩⟩
        have := hy.2 vs hs2
        rw [hu] at this
        cases this
        exact ru
      · rw [hlen]
        exact ⟨vs, hs2, Nat.le_refl _⟩
    · refine .inr ⟨vs, G1.fh.seqT hs, k _ W1 H1 e1 G1 fun W2 M2 H2 e2 G2 => ?_⟩
      have hs2 : SqT K H2 p vs := G2.fh.seqT (e2.ff.seqT hs)
      refine ⟨fun i x hx => ?_, ?_⟩
      · obtain ⟨u, hu, ru⟩ := item i x W2 e2 hx
        refine ⟨⟨vs, u, hs2, hu⟩, fun y' H'' hy => ⟨hy.1, ?_⟩⟩
        have := hy.2 vs hs2
        rw [hu] at this
        cases this
        exact ru
      · rw [hlen]
        exact ⟨vs, hs2, Nat.le_refl _⟩
/-- lo, lo + 1, .. : n of them -/
def rngD (lo : Int) (n : Nat) : List CD := (List.range n).map fun i => .d (.int (lo + (i : Nat)))
theorem rngD_get {lo : Int} {n i : Nat} {x : CD} (h : (rngD lo n)[i]? = some x) : i < n ∧ x = .d (.int (lo + i)) := by
  unfold rngD at h
  rw [List.getElem?_map] at h
  by_cases hi : i < n
  · rw [List.getElem?_range hi] at h
    exact ⟨hi, (Option.some.inj h).symm⟩
  · rw [List.getElem?_eq_none_iff.mpr (by simpa using hi)] at h
    cases h
def small62 (i : Int) : Bool := decide (-(2 ^ 62) ≤ i) && decide (i < 2 ^ 62)
def fRng1 (f : AF) : AF := fun γ M => (f γ M).bind fun r => match r.1 with
  | [.d (.int j)] => if small62 j = true then some (rngD 0 j.toNat, r.2) else none
  | _ => none
theorem gives_rng {lo : Int} {n : Nat} {W : Wd} : GivesW K (Itr lo n) (rngD lo n) W := fun W' M' H' e G =>
  ⟨fun i x hx => ⟨(rngD_get hx).1, fun y H'' hy => ⟨hy.1, by rw [(rngD_get hx).2]; exact hy.2⟩⟩, by show n ≤ _; simp [rngD]⟩
theorem small62_of {i : Int} (h : small62 i = true) : -(2 ^ 62) ≤ i ∧ i < 2 ^ 62 := by
  unfold small62 at h
  rw [Bool.and_eq_true] at h
  exact ⟨of_decide_eq_true h.1, of_decide_eq_true h.2⟩
theorem si_rng1 (b : SA K tA fa) : SI K (iRng1 tA) (fRng1 fa) := by
  intro γ M xs M' hh W H σ R G Rs k
  obtain ⟨⟨ys, M1⟩, h1, hh⟩ := bindE hh
  refine b _ _ _ _ h1 W H σ _ G Rs fun vs W1 H1 e1 G1 r1 => ?_
  revert hh
  dsimp only
  split
  · rename_i j
    intro hh
    by_cases hs : small62 j = true
    · rw [if_pos hs] at hh
      cases hh
      cases r1 with
      | cons r r' =>
        cases r'
        exact ⟨j, by rw [show _ = V.int j from r], (small62_of hs).1, (small62_of hs).2, k _ W1 H1 e1 G1 gives_rng⟩
    · rw [if_neg hs] at hh; cases hh
  · intro hh; cases hh
/-! ### loops -/
theorem ss_for {wi : TI} (i : SI K wi fa) (a : SG K tg hg) (b : SS K t p) : SS K (tFor wi tg t) (sFor fa hg p) := by
  intro γ M o M' hh W H σ D G R k
  obtain ⟨⟨xs, M1⟩, h1, hh⟩ := bindE hh
  have hh : forF hg p xs γ M1 = some (o, M') := hh
  refine i _ _ _ _ h1 W H σ _ G R fun J W1 H1 e1 G1 gv => ?_
  refine ⟨fun j m σ' H' => ∃ γ' M2 W2, j ≤ xs.length ∧ m = xs.length - j ∧ W1.Ext W2 ∧ Good K W2 M2 H' ∧ RepS K W2 γ' σ' ∧ forF hg p (xs.drop j) γ' M2 = some (o, M'), ⟨_, γ, M1, W1, Nat.zero_le _, rfl, .refl _, G1, R.up e1, hh⟩, ?_⟩
  rintro j m σ' H' ⟨γ', M2, W2, hj, rfl, e2, G2, R2, h2⟩
  obtain ⟨gv1, gv2⟩ := gv W2 M2 H' e2 G2
  by_cases hlt : j < xs.length
  · obtain ⟨go, yl⟩ := gv1 j xs[j] (List.getElem?_eq_getElem hlt)
    rw [List.drop_eq_getElem_cons hlt] at h2
    refine .inr ⟨go, fun σ3 H3 => ∃ γ3 M3 W3, W2.Ext W3 ∧ Good K W3 M3 H3 ∧ RepS K W3 γ3 σ3 ∧ forF hg p (xs.drop (j + 1)) γ3 M3 = some (o, M'), ?_, fun y H3 hy => ?_⟩
    · rintro σ3 H3 ⟨γ3, M3, W3, e3, G3, R3, h3⟩
      exact ⟨_, by omega, γ3, M3, W3, hlt, rfl, e2.trans e3, G3, R3, h3⟩
    · obtain ⟨rfl, ry⟩ := yl y H3 hy
      obtain ⟨⟨γ4, M4⟩, h4, h2⟩ := bindE (show (hg xs[j] γ' M2).bind _ = _ from h2)
      obtain ⟨⟨o5, M5⟩, h5, h2⟩ := bindE h2
      refine a _ _ _ _ _ h4 W2 _ σ' y _ G2 R2 ry fun σ4 W4 H4 e4 G4 R4 => ?_
      refine b _ _ _ _ h5 W4 H4 σ4 _ G4 R4 fun W5 H5 e5 G5 => ?_
      have e25 := e4.trans e5
      cases o5 with
      | nx γ5 => exact fun σ5 R5 => ⟨γ5, M5, W5, e25, G5, R5, h2⟩
      | ct γ5 => exact fun σ5 R5 => ⟨γ5, M5, W5, e25, G5, R5, h2⟩
      | bk γ5 => cases h2; exact k W5 H5 ((e1.trans e2).trans e25) G5
      | rt x => cases h2; exact k W5 H5 ((e1.trans e2).trans e25) G5
  · have e : j = xs.length := by omega
    subst e
    rw [List.drop_length] at h2
    cases h2
    exact .inl ⟨gv2, k W2 H' (e1.trans e2) G2 σ' R2⟩
/-! ### comprehensions -/
theorem capRep {W : Wd} {γ : Ga} {σ : St} (R : RepS K W γ σ) : ∀ cap : List (Option Nat), RepS K W (capG cap γ) (capS cap σ)
  | [] => .nil
  | none :: r => .cons True.intro (capRep R r)
  | some j :: r => by
    refine .cons ?_ (capRep R r)
    show RepO K W ((γ[j]?).join) ((σ[j]?).join)
    cases e : γ[j]? with
    | none =>
      have : σ[j]? = none := by
        have hl := Paired.len R
        exact List.getElem?_eq_none_iff.mpr (by have := List.getElem?_eq_none_iff.mp e; omega)
      rw [this]
      exact True.intro
    | some x =>
      obtain ⟨y, hy, r'⟩ := Paired.get R e
      rw [hy]
      exact r'
theorem lc_all {wi : TI} {cap : List (Option Nat)} {te : TE} {fe : EF} (i : SI K wi fa) (a : SG K tg hg) (c : STt K tt ft) (b : SE K te fe) {γ : Ga} {M : Sto} {xs : List CD} {M' : Sto} (hh : lcRun cap fa hg ft fe γ M = some (xs, M'))
    {W : Wd} {H : Hp} {σ : St} {Q : VK} (G : Good K W M H) (R : RepS K W γ σ) (k : ∀ vs W' H', W.Ext W' → Good K W' M' H' → RepVs K W' xs vs → ∀ p, H' p = none → Q (.ref p) (upd H' p (.lst vs))) : tLc cap wi tg tt te σ H Q := by
  obtain ⟨⟨ys, M1⟩, h1, hh⟩ := bindE hh
  have hh : (if ys.length ≤ sizeLine then lcF hg ft fe ys (capG cap γ) M1 else none) = some (xs, M') := hh
  by_cases hl : ys.length ≤ sizeLine
  · rw [if_pos hl] at hh
    refine i _ _ _ _ h1 W H σ _ G R fun J W1 H1 e1 G1 gv => ?_
    refine ⟨fun j m acc σ' H' => ∃ γ' M2 W2 pre suf, j ≤ ys.length ∧ m = ys.length - j ∧ acc.length ≤ j ∧ W1.Ext W2 ∧ Good K W2 M2 H' ∧ RepS K W2 γ' σ' ∧ RepVs K W2 pre acc ∧ pre ++ suf = xs ∧ lcF hg ft fe (ys.drop j) γ' M2 = some (suf, M'),
      ⟨_, capG cap γ, M1, W1, [], xs, Nat.zero_le _, rfl, Nat.zero_le _, .refl _, G1, capRep (R.up e1) cap, .nil, rfl, hh⟩, ?_⟩
    rintro j m acc σ' H' ⟨γ', M2, W2, pre, suf, hj, rfl, hacc, e2, G2, R2, rp, hx, h2⟩
    obtain ⟨gv1, gv2⟩ := gv W2 M2 H' e2 G2
    by_cases hlt : j < ys.length
    · obtain ⟨go, yl⟩ := gv1 j ys[j] (List.getElem?_eq_getElem hlt)
      rw [List.drop_eq_getElem_cons hlt] at h2
      refine .inr ⟨go, by omega, fun acc3 σ3 H3 => ∃ γ3 M3 W3 pre3 suf3, acc3.length ≤ j + 1 ∧ W2.Ext W3 ∧ Good K W3 M3 H3 ∧ RepS K W3 γ3 σ3 ∧ RepVs K W3 pre3 acc3 ∧ pre3 ++ suf3 = xs ∧ lcF hg ft fe (ys.drop (j + 1)) γ3 M3 = some (suf3, M'), ?_, fun y H3 hy => ?_⟩
      · rintro acc3 σ3 H3 ⟨γ3, M3, W3, pre3, suf3, hl3, e3, G3, R3, rp3, hx3, h3⟩
        exact ⟨_, by omega, γ3, M3, W3, pre3, suf3, hlt, rfl, hl3, e2.trans e3, G3, R3, rp3, hx3, h3⟩
      · obtain ⟨rfl, ry⟩ := yl y H3 hy
        obtain ⟨⟨γ4, M4⟩, h4, h2⟩ := bindE (show (hg ys[j] γ' M2).bind _ = _ from h2)
        obtain ⟨⟨b5, M5⟩, h5, h2⟩ := bindE h2
        refine a _ _ _ _ _ h4 W2 _ σ' y _ G2 R2 ry fun σ4 W4 H4 e4 G4 R4 => ?_
        refine c _ _ _ _ h5 W4 H4 σ4 _ G4 R4 fun W5 H5 e5 G5 => ?_
        have e25 := e4.trans e5
        cases b5 with
        | true =>
          rw [if_pos rfl] at h2
          obtain ⟨⟨z, M6⟩, h6, h2⟩ := bindE h2
          obtain ⟨⟨zs, M7⟩, h7, h2⟩ := bindE h2
          cases h2
          refine .inl ⟨rfl, b _ _ _ _ h6 W5 H5 σ4 _ G5 (R4.up e5) fun v W6 H6 e6 G6 r6 => ?_⟩
          refine ⟨γ4, M6, W6, pre ++ [z], zs, by rw [List.length_append]; simp only [List.length_singleton]; omega, e25.trans e6, G6, R4.up (e5.trans e6), Paired.app (RepVs.up rp (e25.trans e6)) (.cons r6 .nil), by rw [← hx, List.append_assoc]; rfl, h7⟩
        | false =>
          rw [if_neg Bool.false_ne_true] at h2
          exact .inr ⟨rfl, γ4, M5, W5, pre, suf, by omega, e25, G5, R4.up e5, RepVs.up rp e25, hx, h2⟩
    · have e : j = ys.length := by omega
      subst e
      rw [List.drop_length] at h2
      cases h2
      rw [List.append_nil] at hx
      subst hx
      exact .inl ⟨gv2, k acc W2 H' (e1.trans e2) G2 rp⟩
  · rw [if_neg hl] at hh; cases hh
theorem se_lc {wi : TI} {cap : List (Option Nat)} {te : TE} {fe : EF} (i : SI K wi fa) (a : SG K tg hg) (c : STt K tt ft) (b : SE K te fe) : SE K (tLc cap wi tg tt te) (fLc cap fa hg ft fe) := by
  intro γ M x M' hh W H σ Q G R k
  obtain ⟨⟨ys, M1⟩, h1, hh⟩ := bindE hh
  obtain ⟨ds, h2, hh⟩ := bindE hh
  by_cases hl : ds.length ≤ sizeLine
  · rw [if_pos hl] at hh
    cases hh
    refine lc_all i a c b h1 G R fun vs W1 H1 e1 G1 r1 p hp => ?_
    obtain ⟨e2, G2⟩ := G1.lay (o := .lst vs) hp
    exact k _ _ _ (e1.trans e2) G2 ⟨p, vs, rfl, SqL.of upd_same, RepAll.same e2.ff _ _ (repAll_of h2 r1)⟩
  · rw [if_neg hl] at hh; cases hh
theorem st_yes : STt K tYes gYes := by
  intro γ M x M' hh W H σ Q G R k
  cases hh
  exact k W H (.refl _) G
/-! ### a def -/
theorem RepVs.some {W : Wd} : ∀ {xs : List CD} {vs : List V}, RepVs K W xs vs → RepS K W (xs.map some) (vs.map some)
  | _, _, .nil => .nil
  | _, _, .cons r t => .cons r (RepVs.some t)
theorem rep_none {W : Wd} : ∀ n : Nat, RepS K W (List.replicate n none) (List.replicate n none)
  | 0 => .nil
  | n + 1 => .cons True.intro (rep_none n)
theorem Def.okM {P : Program} {w : World} {mg : Str → Option Value} {base : Heap} {x : Str} {st : Stmt} {N ps : List Str} {k : Nat} {b : SF} (D : Def K mg x st) (S : FnScope N ps (defScope st))
    (hb : ∀ (kV doc pm : Value) (an : Option Addr) (cdv ct : Value) (us : List Value), us.length = ps.length → bindArgs (PySem.W.fnOf x x (defArgs st) (defBody st) (defScope st) .none kV doc pm an cdv ct) ⟨us, []⟩ = pure (ps.zip us))
    (hbody : ∀ (f : Addr) (cdv : Value) (A : Around) (outer : List Env) (s : Shared) (H : Hp) (E : XK), Room k (A.deeper (envOfC x (defScope st) s.heap.objs.size f cdv)) →
      ∃ t, PSs (cxOf CX0 P w K mg base N x (defScope st) f cdv A outer s H E).nox (defBody st) t ∧ SS K t b) : Callee P w K mg base (k + 1) x ps (spM K (fnF ps.length N.length b)) := by
  have len : ∀ vs H Q E, spM K (fnF ps.length N.length b) vs H Q E → vs.length = ps.length := fun vs H Q E h => by
    obtain ⟨xs, M, W, y, M', G, R, hf, _⟩ := h
    by_cases hl : xs.length = ps.length
    · rw [← Paired.len R]; exact hl
    · unfold fnF at hf
      rw [if_neg hl] at hf; cases hf
  refine D.ok S hb len fun f cdv A outer s H vs Q E hr h => ?_
  obtain ⟨t, hP, hS⟩ := hbody f cdv A outer s H E hr
  refine ⟨t, hP, ?_⟩
  obtain ⟨xs, M, W, y, M', G, R, hf, k⟩ := h
  by_cases hl : xs.length = ps.length
  · unfold fnF at hf
    rw [if_pos hl] at hf
    obtain ⟨⟨o, M1⟩, h1, hf⟩ := bindE hf
    have hR : RepS K W (xs.map some ++ List.replicate (N.length - xs.length) none) (start N vs) := by
      unfold start
      rw [← Paired.len R]
      exact Paired.app (RepVs.some R) (rep_none _)
    refine hS _ _ _ _ h1 W H _ _ G hR fun W1 H1 e1 G1 => ?_
    cases o with
    | rt x => cases hf; exact fun v r => k v W1 H1 e1 G1 r
    | nx γ => cases hf; exact fun σ r => k .non W1 H1 e1 G1 rfl
    | bk γ => cases hf
    | ct γ => cases hf
  · unfold fnF at hf
    rw [if_neg hl] at hf; cases hf
end
end L2

end

section
set_option Elab.async false
set_option linter.all false
set_option maxRecDepth 100000
set_option maxHeartbeats 4000000
namespace L2
open PySem PySem.Spec PyProof.Rows
/-! # primitives -/
/-- an operation of the text and its mirror -/
structure B2 (X : Cx) (o : Value → Value → Sem Value) (h : F2) : Prop where
  ex : ∃ r, OpR X o r ∧ P2 X.K r h
structure BN (X : Cx) (f : Value) (h : FN) : Prop where
  ex : ∃ r, CallR X f r ∧ PN X.K r h
structure BI (X : Cx) (h : F2) : Prop where
  ex : ∃ r, IxR X r ∧ P2 X.K r h
def orF2 (h h' : F2) : F2 := fun x y M => match h x y M with
  | some r => some r
  | none => h' x y M
theorem B2.or {X : Cx} {o : Value → Value → Sem Value} {h h' : F2} (a : B2 X o h) (b : B2 X o h') : B2 X o (orF2 h h') := by
  obtain ⟨r, a1, a2⟩ := a.ex
  obtain ⟨r', b1, b2⟩ := b.ex
  refine ⟨_, a1.or b1, fun x y M z M' hh W H v u Q G rv ru k => ?_⟩
  unfold orF2 at hh
  cases e : h x y M with
  | some q =>
    rw [e] at hh
    cases hh
    exact .inl (a2 _ _ _ _ _ e W H v u Q G rv ru k)
  | none =>
    rw [e] at hh
    exact .inr (b2 _ _ _ _ _ hh W H v u Q G rv ru k)
/-! ### ints -/
def pI (g : Int → Int → Option PyData) : F2 := fun x y M => match x, y with
  | .d (.int i), .d (.int j) => (g i j).bind fun z => some (.d z, M)
  | _, _ => none
theorem pI_of {g : Int → Int → Option PyData} {x y : CD} {M : Sto} {z : CD} {M' : Sto} (h : pI g x y M = some (z, M')) : ∃ i j w, x = .d (.int i) ∧ y = .d (.int j) ∧ g i j = some w ∧ z = .d w ∧ M' = M := by
  unfold pI at h
  split at h
  · rename_i i j
    obtain ⟨w, h1, h⟩ := bindE h
    cases h
    exact ⟨i, j, w, rfl, rfl, h1, rfl, rfl⟩
  · cases h
section
variable {X : Cx} {K : PySem.W.Frag}
theorem p2_I0 {g : Int → Int → Int} : P2 K (rI0 fun i j => .int (g i j)) (pI fun i j => some (.int (g i j))) := by
  intro x y M z M' h W H v u Q G rx ry k
  obtain ⟨i, j, w, rfl, rfl, hw, rfl, rfl⟩ := pI_of h
  cases hw
  exact ⟨i, j, rx, ry, k _ W H (.refl _) G rfl⟩
def ifS (c : Bool) (x : PyData) : Option PyData := if c = true then some x else none
theorem ifS_of {c : Bool} {x y : PyData} (h : ifS c x = some y) : c = true ∧ y = x := by
  unfold ifS at h
  cases c with
  | true => rw [if_pos rfl] at h; cases h; exact ⟨rfl, rfl⟩
  | false => rw [if_neg Bool.false_ne_true] at h; cases h
theorem p2_I {C : Int → Int → Prop} {c : Int → Int → Bool} {g : Int → Int → Int} (hc : ∀ i j, c i j = true → C i j) : P2 K (rI C fun i j => .int (g i j)) (pI fun i j => ifS (c i j) (.int (g i j))) := by
  intro x y M z M' h W H v u Q G rx ry k
  obtain ⟨i, j, w, rfl, rfl, hw, rfl, rfl⟩ := pI_of h
  obtain ⟨h1, rfl⟩ := ifS_of hw
  exact ⟨i, j, rx, ry, hc i j h1, k _ W H (.refl _) G rfl⟩
def addI : F2 := pI fun i j => some (.int (i + j))
def subI : F2 := pI fun i j => some (.int (i - j))
def mulOk (i j : Int) : Bool := decide (i.natAbs < 2 ^ 64) || decide (j.natAbs < 2 ^ 64) || (decide (i.natAbs < wideN) && decide (j.natAbs < wideN))
def mulI : F2 := pI fun i j => ifS (mulOk i j) (.int (i * j))
def divOk (_ j : Int) : Bool := decide (0 < j) && decide (j.natAbs < wideN)
def fdivI : F2 := pI fun i j => ifS (divOk i j) (.int (i / j))
def modOk (_ j : Int) : Bool := decide (0 < j)
def modI : F2 := pI fun i j => ifS (modOk i j) (.int (i % j))
def powOk (i j : Int) : Bool := decide (0 ≤ j) && decide (j ≤ 1000000) && decide (i.natAbs < 2 ^ 64)
def powI : F2 := pI fun i j => ifS (powOk i j) (.int (i ^ j.toNat))
theorem mulOk_of {i j : Int} (h : mulOk i j = true) : CMulA i j := by
  unfold mulOk at h
  simp only [Bool.or_eq_true, Bool.and_eq_true, decide_eq_true_eq] at h
  rcases h with (h | h) | h
  · exact .inl (.inl ⟨by omega, by omega⟩)
  · exact .inl (.inr ⟨by omega, by omega⟩)
  · exact .inr h
def ltI : F2 := pI fun i j => some (.bool (decide (i < j)))
def leI : F2 := pI fun i j => some (.bool (decide (i ≤ j)))
def gtI : F2 := pI fun i j => some (.bool (decide (j < i)))
def geI : F2 := pI fun i j => some (.bool (decide (j ≤ i)))
/-! ### data -/
def eqD (neg : Bool) : F2 := fun x y M => match x, y with
  | .d a, .d b => if (SeqAt.shaped a && SeqAt.shaped b) = true then some (.d (.bool (if neg then !PyData.eqv a b else PyData.eqv a b)), M) else none
  | _, _ => none
theorem p2_eq {neg : Bool} : P2 K (rEqD K neg) (eqD neg) := by
  intro x y M z M' h W H v u Q G rx ry k
  unfold eqD at h
  split at h
  · rename_i a b
    by_cases hs : (SeqAt.shaped a && SeqAt.shaped b) = true
    · rw [if_pos hs] at h
      cases h
      rw [Bool.and_eq_true] at hs
      exact ⟨a, b, Rep.same G.fh _ _ rx, Rep.same G.fh _ _ ry, hs.1, hs.2, k _ W H (.refl _) G rfl⟩
    · rw [if_neg hs] at h; cases h
  · cases h
/-! ### items and lengths -/
theorem RepAll.nth {H : Hp} {ds : List PyData} {vs : List V} {i : Nat} {d : PyData} (h : RepAll K H ds vs) (e : ds[i]? = some d) : ∃ v, vs[i]? = some v ∧ Rep K H d v := by
  have hlt : i < vs.length := by rw [← h.length]; exact (List.getElem?_eq_some_iff.mp e).1
  have hv : vs[i]? = some vs[i] := List.getElem?_eq_getElem hlt
  obtain ⟨d', hd', r⟩ := h.get hv
  rw [e] at hd'
  cases hd'
  exact ⟨_, hv, r⟩
theorem atI_of {α : Type} {xs : List α} {i : Int} {x : α} (h : atI xs i = some x) : ∃ j, ixN xs.length i = some j ∧ xs[j]? = some x := by
  unfold atI at h
  exact bindE h
theorem atI_mk {α : Type} {xs : List α} {i : Int} {j : Nat} {x : α} (h : ixN xs.length i = some j) (e : xs[j]? = some x) : atI xs i = some x := by
  unfold atI
  rw [h]
  exact e
def ixF : F2 := fun x y M => match x, y with
  | .d a, .d (.int n) => (itemsD a).bind fun ds => (atI ds n).bind fun e => some (.d e, M)
  | .c i, .d (.int n) => match M[i]? with
    | some (.lst xs) => (atI xs n).bind fun e => some (e, M)
    | _ => none
  | _, _ => none
theorem Good.lstAt {W : Wd} {M : Sto} {H : Hp} {i : Nat} {xs : List CD} (G : Good K W M H) (h : M[i]? = some (.lst xs)) : ∃ vs, H (W.α i) = some (.lst vs) ∧ RepVs K W xs vs := by
  obtain ⟨_, o, h2, h3⟩ := G.cs i _ h (by intro z; cases z)
  cases o with
  | lst vs => exact ⟨vs, h2, h3⟩
  | _ => exact False.elim h3
theorem p2_ix : P2 K (rIx K) ixF := by
  intro x y M z M' h W H v u Q G rx ry k
  unfold ixF at h
  split at h
  · rename_i a n
    obtain ⟨ds, h1, h⟩ := bindE h
    obtain ⟨e, h2, h⟩ := bindE h
    cases h
    obtain ⟨p, vs, rfl, hq, hr⟩ := rep_seq (Rep.same G.fh _ _ rx) h1
    obtain ⟨j, hj, he⟩ := atI_of h2
    obtain ⟨w, hw, rw'⟩ := hr.nth he
    have hlen := hr.length
    have hat : atI vs n = some w := atI_mk (by rw [← hlen]; exact hj) hw
    -- the item is data of the frozen part
    obtain ⟨p', vs', e', hq', hr'⟩ := rep_seq (show Rep K W.F a (.ref p) from rx) h1
    cases e'
    have same : ∀ w', vs'[j]? = some w' → Rep K W.F e w' := fun w' hw' => by
      obtain ⟨w2, h3, h4⟩ := hr'.nth he
      rw [hw'] at h3
      cases h3
      exact h4
    obtain ⟨w', hw', r'⟩ := hr'.nth he
    have hat' : atI vs' n = some w' := atI_mk (by rw [← hr'.length]; exact hj) hw'
    rcases hq' with hq' | hq'
    · exact .inl ⟨p, vs', n, w', rfl, ry, G.fh.seq hq', hat', k _ W H (.refl _) G r'⟩
    · exact .inr (.inl ⟨p, vs', n, w', rfl, ry, G.fh.seqT hq', hat', k _ W H (.refl _) G r'⟩)
  · rename_i i n
    split at h
    · rename_i xs hx
      obtain ⟨e, h2, h⟩ := bindE h
      cases h
      obtain ⟨vs, hv, hr⟩ := G.lstAt hx
      obtain ⟨j, hj, he⟩ := atI_of h2
      obtain ⟨w, hw, r'⟩ := Paired.get hr he
      have hat : atI vs n = some w := atI_mk (by rw [← Paired.len hr]; exact hj) hw
      rw [show v = .ref (W.α i) from rx.2]
      exact .inl ⟨_, vs, n, w, rfl, ry, SqL.of hv, hat, k _ W H (.refl _) G r'⟩
    · cases h
  · cases h
/-! ### isinstance -/
def fIsi (T : String) (f : EF) : EF := fun γ M => (f γ M).bind fun r => match r.1 with
  | .d a => some (.d (.bool (isiD T a)), r.2)
  | _ => none
def fIsi2 (T U : String) (f : EF) : EF := fun γ M => (f γ M).bind fun r => match r.1 with
  | .d a => some (.d (.bool (isiD T a || isiD U a)), r.2)
  | _ => none
/-! ### truth -/
def truF (M : Sto) : CD → Option Bool
  | .d .none => some false
  | .d (.bool b) => some b
  | .d (.int i) => some (i != 0)
  | .d (.list ds) => some (!ds.isEmpty)
  | .d (.tuple ds) => some (!ds.isEmpty)
  | .c i => match M[i]? with
    | some (.lst xs) => some (!xs.isEmpty)
    | some (.dk kvs) => some (!kvs.isEmpty)
    | _ => none
  | _ => none
def gTru (f : EF) : TF := fun γ M => (f γ M).bind fun r => (truF r.2 r.1).bind fun b => some (b, r.2)
/-! ### all, any of a list of truths -/
/-! ### stores -/
end
end L2

end

section
set_option Elab.async false
set_option linter.all false
set_option maxRecDepth 100000
set_option maxHeartbeats 4000000
namespace L2
open PySem PySem.Spec PyProof.Rows
/-! ### + over ints, lists, tuples -/
section
variable {X : Cx} {K : PySem.W.Frag}
def rCatS (K : PySem.W.Frag) : R2 := fun x y H Q => ∃ l b xs zs, x = .ref l ∧ y = .ref b ∧ SqL K H l xs ∧ SqL K H b zs ∧ xs.length + zs.length ≤ sizeLine ∧ ∀ p, H p = none → Q (.ref p) (upd H p (.lst (xs ++ zs)))
theorem op_catS : OpR X (binaryOp .Add) (rCatS X.K) := by
  intro pins s σ H x y v u Q I rx ry h
  obtain ⟨l, b, xs, zs, rfl, rfl, hH, hB, hz, q⟩ := h
  cases rx
  cases ry
  obtain ⟨its, r, ⟨⟨cls, dd, data, sl⟩, n, ho, hc, hdd, hd⟩, _⟩ := I.list hH
  obtain ⟨its2, r2, ⟨⟨cls2, dd2, data2, sl2⟩, n2, ho2, hc2, hdd2, hd2⟩, _⟩ := I.list hB
  simp only at hc hd hc2 hd2
  subst hc hd hc2 hd2
  have e1 := r.length
  have e2 := r2.length
  refine concat_meets ⟨_, ho, rfl⟩ ⟨_, ho2, rfl⟩ noFill_list_add seq_list_add PySem.F.slot_list_add PySem.F.entry_list_add (PySem.F.args_list_add_2 _ _) (list_addW l b its.toArray its2.toArray n n2 dd dd2 sl sl2 (by rw [List.size_toArray, List.size_toArray]; omega)) ⟨ho, ho2, ?_⟩
  have ea : its.toArray ++ its2.toArray = (its ++ its2).toArray := by simp
  rw [ea]
  exact ⟨.ref _, _, I.lnew (t' := s.toks) (r.append r2) (by rw [List.length_append]; omega), rfl, q _ I.fresh⟩
/-- the items of a list, data or a cell -/
def lstOf (M : Sto) : CD → Option (List CD)
  | .d (.list ds) => some (ds.map .d)
  | .c i => match M[i]? with
    | some (.lst xs) => some xs
    | _ => none
  | _ => none
theorem lstOf_rep {W : Wd} {M : Sto} {H : Hp} {x : CD} {xs : List CD} {v : V} (G : Good K W M H) (h : lstOf M x = some xs) (r : RepV K W x v) : ∃ p vs, v = .ref p ∧ SqL K H p vs ∧ RepVs K W xs vs := by
  unfold lstOf at h
  split at h
  · rename_i ds
    cases h
    obtain ⟨p, us, rfl, hq, hr⟩ := (show ∃ a us, _ = V.ref a ∧ SqL K W.F a us ∧ RepAll K W.F ds us from r)
    exact ⟨p, us, rfl, G.fh.seq hq, repVs_of hr⟩
  · rename_i i
    split at h
    · rename_i ys hy
      cases h
      obtain ⟨us, hv, hr⟩ := G.lstAt hy
      exact ⟨_, us, r.2, SqL.of hv, hr⟩
    · cases h
  · cases h
def catL : F2 := fun x y M => (lstOf M x).bind fun xs => (lstOf M y).bind fun ys => (allD (xs ++ ys)).bind fun ds => if ds.length ≤ sizeLine then some (.d (.list ds), M) else none
theorem p2_catL : P2 K (rCatS K) catL := by
  intro x y M z M' h W H v u Q G rx ry k
  obtain ⟨xs, h1, h⟩ := bindE h
  obtain ⟨ys, h2, h⟩ := bindE h
  obtain ⟨ds, h3, h⟩ := bindE h
  by_cases hl : ds.length ≤ sizeLine
  · rw [if_pos hl] at h
    cases h
    obtain ⟨p, vs, rfl, hp, hr⟩ := lstOf_rep G h1 rx
    obtain ⟨q, us, rfl, hq, hs⟩ := lstOf_rep G h2 ry
    have el := allD_len h3
    rw [List.length_append] at el
    refine ⟨p, q, vs, us, rfl, rfl, hp, hq, by rw [← Paired.len hr, ← Paired.len hs]; omega, fun l hl => ?_⟩
    obtain ⟨e2, G2⟩ := G.lay (o := .lst (vs ++ us)) hl
    exact k _ _ _ e2 G2 ⟨l, _, rfl, SqL.of upd_same, RepAll.same e2.ff _ _ (repAll_of h3 (Paired.app hr hs))⟩
  · rw [if_neg hl] at h; cases h
def catT : F2 := fun x y M => match x, y with
  | .d (.tuple xs), .d (.tuple ys) => if xs ≠ [] ∧ xs.length + ys.length ≤ sizeLine then some (.d (.tuple (xs ++ ys)), M) else none
  | _, _ => none
theorem RepAll.nil_iff {H : Hp} {ds : List PyData} {vs : List V} (r : RepAll K H ds vs) : vs = [] ↔ ds = [] := by
  have := r.length
  constructor <;> intro h <;> subst h <;> simp at this
  · exact this
  · exact List.eq_nil_of_length_eq_zero this.symm
theorem p2_catT : P2 K (rCatT K) catT := by
  intro x y M z M' h W H v u Q G rx ry k
  unfold catT at h
  split at h
  · rename_i xs ys
    by_cases hc : xs ≠ [] ∧ xs.length + ys.length ≤ sizeLine
    · rw [if_pos hc] at h
      cases h
      obtain ⟨p, vs, rfl, hp, hr⟩ := (show ∃ a us, v = V.ref a ∧ SqT K W.F a us ∧ RepAll K W.F xs us from rx)
      obtain ⟨q, us, rfl, hq, hs⟩ := (show ∃ a us, u = V.ref a ∧ SqT K W.F a us ∧ RepAll K W.F ys us from ry)
      refine ⟨p, q, vs, us, rfl, rfl, G.fh.seqT hp, G.fh.seqT hq, fun z => hc.1 (hr.nil_iff.mp z), by rw [← hr.length, ← hs.length]; exact hc.2, fun z => ?_, fun z l hl => ?_⟩
      · have : ys = [] := hs.nil_iff.mp z
        subst this
        rw [List.append_nil] at k
        exact k _ W H (.refl _) G ⟨p, vs, rfl, hp, hr⟩
      · obtain ⟨e2, G2⟩ := G.lay (o := .tup (vs ++ us)) hl
        exact k _ _ _ e2 G2 ⟨l, _, rfl, SqT.of upd_same, RepAll.same e2.ff _ _ (RepAll.app hr hs)⟩
    · rw [if_neg hc] at h; cases h
  · cases h
theorem P2.or {r r' : R2} {h h' : F2} (a : P2 K r h) (b : P2 K r' h') : P2 K (fun x y H Q => r x y H Q ∨ r' x y H Q) (orF2 h h') := by
  intro x y M z M' hh W H v u Q G rv ru k
  unfold orF2 at hh
  cases e : h x y M with
  | some q =>
    rw [e] at hh
    cases hh
    exact .inl (a _ _ _ _ _ e W H v u Q G rv ru k)
  | none =>
    rw [e] at hh
    exact .inr (b _ _ _ _ _ hh W H v u Q G rv ru k)
/-- () + u is u -/
def rCatT0 (K : PySem.W.Frag) : R2 := fun x y H Q => ∃ a b ys, x = .ref a ∧ y = .ref b ∧ SqT K H a [] ∧ SqT K H b ys ∧ Q (.ref b) H
theorem op_catT0 : OpR X (binaryOp .Add) (rCatT0 X.K) := by
  intro pins s σ H x y v u Q I rx ry h
  obtain ⟨a, b, ys, rfl, rfl, ha, hb, q⟩ := h
  cases rx
  cases ry
  obtain ⟨its, r1, ⟨⟨cls, dd, data, sl⟩, ho, hc, n, hd⟩, _⟩ := I.tuple ha
  obtain ⟨its2, r2, ⟨⟨cls2, dd2, data2, sl2⟩, ho2, hc2, n2, hd2⟩, _⟩ := I.tuple hb
  simp only at hc hd hc2 hd2
  subst hc hd hc2 hd2
  cases r1
  exact concat_meets ⟨_, ho, rfl⟩ ⟨_, ho2, rfl⟩ noFill_tuple_add seq_tuple_add PySem.F.slot_tuple_add PySem.F.entry_tuple_add (PySem.F.args_tuple_add_2 _ _) (tuple_addW0 a b #[] its2.toArray n n2 dd dd2 sl sl2 rfl) ⟨ho, ho2, ⟨.ref b, H, I, rfl, q⟩⟩
def catT0 : F2 := fun x y M => match x, y with
  | .d (.tuple []), .d (.tuple ys) => some (.d (.tuple ys), M)
  | _, _ => none
theorem p2_catT0 : P2 K (rCatT0 K) catT0 := by
  intro x y M z M' h W H v u Q G rx ry k
  unfold catT0 at h
  split at h
  · rename_i ys
    cases h
    obtain ⟨p, vs, rfl, hp, hr⟩ := (show ∃ a us, v = V.ref a ∧ SqT K W.F a us ∧ RepAll K W.F [] us from rx)
    obtain ⟨q, us, rfl, hq, hs⟩ := (show ∃ a us, u = V.ref a ∧ SqT K W.F a us ∧ RepAll K W.F ys us from ry)
    rw [show vs = [] from hr] at hp
    exact ⟨p, q, us, rfl, rfl, G.fh.seqT hp, G.fh.seqT hq, k _ W H (.refl _) G ⟨q, us, rfl, hq, hs⟩⟩
  · cases h
def addX : F2 := orF2 addI (orF2 catL (orF2 catT0 catT))
def rAddX (K : PySem.W.Frag) : R2 := fun x y H Q => (rI0 fun i j => .int (i + j)) x y H Q ∨ rCatS K x y H Q ∨ rCatT0 K x y H Q ∨ rCatT K x y H Q
theorem op_addX : OpR X (binaryOp .Add) (rAddX X.K) := op_add.or (op_catS.or (op_catT0.or op_catT))
theorem p2_addX : P2 K (rAddX K) addX := P2.or p2_I0 (P2.or p2_catL (P2.or p2_catT0 p2_catT))
/-! ### == of texts, too -/
def eqS (neg : Bool) : F2 := fun x y M => match x, y with
  | .d (.str a), .d (.str b) => some (.d (.bool (if neg then !(a == b) else a == b)), M)
  | _, _ => none
def eqX (neg : Bool) : F2 := orF2 (eqS neg) (eqD neg)
def rEqX (K : PySem.W.Frag) : R2 := fun x y H Q => rEq x y H Q ∨ rEqD K false x y H Q
def rNeX (K : PySem.W.Frag) : R2 := fun x y H Q => rNe x y H Q ∨ rEqD K true x y H Q
theorem decStr {a b : Str} : decide (V.str a = V.str b) = (a == b) := by
  by_cases e : a = b
  · subst e; simp
  · have h : ¬ V.str a = V.str b := fun q => e (V.str.inj q)
    rw [decide_eq_false h, beq_eq_false_iff_ne.mpr e]
theorem p2_eqS : P2 K rEq (eqS false) := by
  intro x y M z M' h W H v u Q G rx ry k
  unfold eqS at h
  split at h
  · rename_i a b
    cases h
    rw [show v = .str a from rx, show u = .str b from ry]
    refine ⟨rfl, ?_⟩
    rw [decStr]
    exact k _ W H (.refl _) G rfl
  · cases h
theorem p2_neS : P2 K rNe (eqS true) := by
  intro x y M z M' h W H v u Q G rx ry k
  unfold eqS at h
  split at h
  · rename_i a b
    cases h
    rw [show v = .str a from rx, show u = .str b from ry]
    refine ⟨rfl, ?_⟩
    rw [decStr]
    exact k _ W H (.refl _) G rfl
  · cases h
theorem p2_eqX : P2 K (rEqX K) (eqX false) := P2.or p2_eqS p2_eq
theorem p2_neX : P2 K (rNeX K) (eqX true) := P2.or p2_neS p2_eq
theorem op_eqX (hu : X.A.units + 64 < cLine) : OpR X (compareOp .Eq) (rEqX X.K) := op_eq.or (op_eqD hu)
theorem op_neX (hu : X.A.units + 64 < cLine) : OpR X (compareOp .NotEq) (rNeX X.K) := op_ne.or (op_neD hu)
theorem p2_mul : P2 K (rI CMulA fun i j => .int (i * j)) mulI := p2_I fun _ _ h => mulOk_of h
theorem p2_mod : P2 K (rI (fun _ j => 0 < j) fun i j => .int (i % j)) modI := p2_I fun i j h => of_decide_eq_true h
theorem p2_pow : P2 K (rI CPow fun i j => .int (i ^ j.toNat)) powI := p2_I fun i j h => by
  unfold powOk at h
  rw [Bool.and_eq_true, Bool.and_eq_true] at h
  exact ⟨of_decide_eq_true h.1.1, of_decide_eq_true h.1.2, of_decide_eq_true h.2⟩
end
end L2

end

section
set_option Elab.async false
set_option linter.all false
set_option maxRecDepth 100000
set_option maxHeartbeats 4000000
namespace L2
open PySem PySem.Spec PyProof.Rows
/-! the rules once more, their part of the text a letter of its own -/
section
variable {X : Cx} {K : PySem.W.Frag}
def rIxK (K : PySem.W.Frag) : R2 := rIx K
theorem kIx (h : X.K = K) : IxR X (rIxK K) := by subst h; exact ix_seq
theorem p2_ixK : P2 K (rIxK K) ixF := p2_ix
theorem kEq (h : X.K = K) (hu : X.A.units + 64 < cLine) : OpR X (compareOp .Eq) (rEqX K) := by subst h; exact op_eqX hu
theorem kNe (h : X.K = K) (hu : X.A.units + 64 < cLine) : OpR X (compareOp .NotEq) (rNeX K) := by subst h; exact op_neX hu
theorem kIn (h : X.K = K) (hu : X.A.in1.units + 64 < cLine) : OpR X (compareOp .In) (rInD K false) := by subst h; exact op_inD hu
theorem kAdd (h : X.K = K) : OpR X (binaryOp .Add) (rAddX K) := by subst h; exact op_addX
theorem pi_seqK {tg l : Expr} {tl : TE} (h : X.K = K) (hl : PE X l tl) : PI X tg l (iSeq K tl) := by subst h; exact pi_seq hl
end
end L2

end

section
set_option Elab.async false
set_option linter.all false
namespace L2
open PySem PySem.Spec PyProof.Rows
section
variable {es : List Expr} {env : Env}
theorem star_Constant {a b c} : starEach (.Constant a b c :: es) env = (false, eval (.Constant a b c) env) :: starEach es env := rfl
theorem star_Name {a b} : starEach (.Name a b :: es) env = (false, eval (.Name a b) env) :: starEach es env := rfl
theorem star_BinOp {a b c d} : starEach (.BinOp a b c d :: es) env = (false, eval (.BinOp a b c d) env) :: starEach es env := rfl
theorem star_Call {a b c d} : starEach (.Call a b c d :: es) env = (false, eval (.Call a b c d) env) :: starEach es env := rfl
theorem star_Subscript {a b c} : starEach (.Subscript a b c :: es) env = (false, eval (.Subscript a b c) env) :: starEach es env := rfl
theorem star_Attribute {a b c} : starEach (.Attribute a b c :: es) env = (false, eval (.Attribute a b c) env) :: starEach es env := rfl
theorem plain_nil {pos : Pos} : (backTo pos (starEach [] env)).any (·.1) = false := rfl
theorem plain_cons {pos : Pos} {e : Expr} (hs : starEach (e :: es) env = (false, eval e env) :: starEach es env) (h : (backTo pos (starEach es env)).any (·.1) = false) : (backTo pos (starEach (e :: es) env)).any (·.1) = false := by
  rw [hs]
  have e1 : backTo pos ((false, eval e env) :: starEach es env) = (false, (do let v ← eval e env; standAt pos; pure v : Sem Value)) :: backTo pos (starEach es env) ∨ (backTo pos ((false, eval e env) :: starEach es env)).any (·.1) = (backTo pos (starEach es env)).any (·.1) := .inr (by unfold backTo; simp)
  rcases e1 with q | q
  · rw [q, List.any_cons, h]; rfl
  · rw [q]; exact h
end
end L2

end

section
set_option Elab.async false
set_option linter.all false
set_option maxRecDepth 100000
set_option maxHeartbeats 4000000
namespace L2
open PySem PySem.Spec PyProof.Rows
section
variable {P : Program} {w : World} {K : PySem.W.Frag} {mg : Str → Option Value}
theorem Fun.okM {base : Heap} {x : Str} {st : Stmt} {N ps : List Str} {k : Nat} {b : SF} {f : Addr} {fd : FuncData} (F : Fun K x x st f fd) (S : FnScope N ps (defScope st))
    (hbody : ∀ (f : Addr) (cdv : Value) (A : Around) (outer : List Env) (s : Shared) (H : Hp) (E : XK), Room k (A.deeper (envOfC x (defScope st) s.heap.objs.size f cdv)) →
      ∃ t, PSs (cxOf CX0 P w K mg base N x (defScope st) f cdv A outer s H E).nox (defBody st) t ∧ SS K t b) : FnOk P w K mg base CX0 (k + 1) f fd ps (spM K (fnF ps.length N.length b)) := by
  have len : ∀ vs H Q E, spM K (fnF ps.length N.length b) vs H Q E → vs.length = ps.length := fun vs H Q E h => by
    obtain ⟨xs, M, W, y, M', G, R, hf, _⟩ := h
    by_cases hl : xs.length = ps.length
    · rw [← Paired.len R]; exact hl
    · unfold fnF at hf
      rw [if_neg hl] at hf; cases hf
  refine F.ok S len fun cdv A outer s H vs Q E hr h => ?_
  obtain ⟨t, hP, hS⟩ := hbody f cdv A outer s H E hr
  refine ⟨t, hP, ?_⟩
  obtain ⟨xs, M, W, y, M', G, R, hf, k⟩ := h
  by_cases hl : xs.length = ps.length
  · unfold fnF at hf
    rw [if_pos hl] at hf
    obtain ⟨⟨o, M1⟩, h1, hf⟩ := bindE hf
    have hR : RepS K W (xs.map some ++ List.replicate (N.length - xs.length) none) (start N vs) := by
      unfold start
      rw [← Paired.len R]
      exact Paired.app (RepVs.some R) (rep_none _)
    refine hS _ _ _ _ h1 W H _ _ G hR fun W1 H1 e1 G1 => ?_
    cases o with
    | rt x => cases hf; exact fun v r => k v W1 H1 e1 G1 r
    | nx γ => cases hf; exact fun σ r => k .non W1 H1 e1 G1 rfl
    | bk γ => cases hf
    | ct γ => cases hf
  · unfold fnF at hf
    rw [if_neg hl] at hf; cases hf
/-- the law's own def -/
theorem Def.okL {x p : Str} {st : Stmt} {N : List Str} {k : Nat} {b : SF} {F : FN} (D : Def K mg x st) (S : FnScope N [p] (defScope st)) (hF : F = fnF 1 N.length b)
    (hb : ∀ (kV doc pm : Value) (an : Option Addr) (cdv ct : Value) (us : List Value), us.length = [p].length → bindArgs (PySem.W.fnOf x x (defArgs st) (defBody st) (defScope st) .none kV doc pm an cdv ct) ⟨us, []⟩ = pure ([p].zip us))
    (hbody : ∀ (base : Heap) (f : Addr) (cdv : Value) (A : Around) (outer : List Env) (s : Shared) (H : Hp) (E : XK), Room k (A.deeper (envOfC x (defScope st) s.heap.objs.size f cdv)) →
      ∃ t, PSs (cxOf CX0 P w K mg base N x (defScope st) f cdv A outer s H E).nox (defBody st) t ∧ SS K t b) :
    ∃ f fd, mg x = some (.ref f) ∧ (∀ (s : Shared) (u : Value), BindsTo s fd ⟨[u], []⟩ [(p, u)]) ∧ ∀ base, FnOk P w K mg base CX0 (k + 1) f fd [p] (spM K F) := by
  subst hF
  obtain ⟨f, fd, Fu, m⟩ := D.ex
  refine ⟨f, fd, m, fun s u => ?_, fun base => Fu.okM S (hbody base)⟩
  obtain ⟨oc, od, kV, doc, pm, an, cdv, ct, osl, rfl, lk, hcd⟩ := Fu.ex
  exact .of_eq (hb kV doc pm an cdv ct [u] rfl)
theorem rep_ints {H : Hp} : ∀ ns : List Int, RepAll K H (ns.map .int) (ns.map V.int)
  | [] => rfl
  | n :: ns => ⟨.int n, ns.map V.int, rfl, rfl, rep_ints ns⟩
/-- what the head asks of the law's promise -/
theorem law_sp {F : FN} (hF : ∀ ns : List Int, ns.length ≤ 63 → ∃ M', F [.d (.list (ns.map .int))] [] = some (.d (.bool true), M')) {H : Hp} {a : Addr} {ns : List Int} (hl : ns.length ≤ 63) (hS : SqL K H a (ns.map V.int)) (E : XK) :
    spM K F [.ref a] H (fun v _ => v = .bl true) E := by
  obtain ⟨M', h⟩ := hF ns hl
  refine ⟨[.d (.list (ns.map .int))], [], ⟨H, fun _ => 0, 0⟩, _, M', ⟨Same.refl H, rfl, fun i c h => by simp at h, fun i j c c' h => by simp at h⟩, .cons (show ∃ a' vs, V.ref a = .ref a' ∧ SqL K H a' vs ∧ RepAll K H (ns.map .int) vs from ⟨a, ns.map V.int, rfl, hS, rep_ints ns⟩) .nil, h, fun v W' H' _ _ r => r⟩
theorem law_walk {l : PySem.W.OpenLaw} {q : Program} {loose : List Str} {XP : (Str → Option Value) → Heap → Prop} {YP : World → Heap → Prop} {d : DefRec} {K : Params → PySem.W.Frag} {F : FN} {k : Nat} {p : Str} (hq : PyProof.Rows.importsNone q = true) (hn : l.most = some 63) (hdf : d.params.defaults = []) (hr : Room k callerA)
    (hY : ∀ (w : World) (h : Heap), YP w h → (K w.params).In h)
    (hT : ∀ (w : World) (mg : Str → Option Value) (h : Heap), (K w.params).In h → h.Ns mainGlobals mg → ∃ f fd, mg d.name = some (.ref f) ∧ (∀ (s : Shared) (u : Value), BindsTo s fd ⟨[u], []⟩ [(p, u)]) ∧ ∀ base, FnOk l.prog w (K w.params) mg base CX0 k f fd [p] (spM (K w.params) F))
    (hF : ∀ ns : List Int, ns.length ≤ 63 → ∃ M', F [.d (.list (ns.map .int))] [] = some (.d (.bool true), M')) :
    PySem.W.WalkO q loose XP YP l.row.toRowW d [] (fun f vs => PySem.call f vs) :=
  L2.walk_of hq (n := 63) (k := k) (x := p) (CX := fun _ => CX0) (sp := fun w => spM (K w.params) F) hn (by decide) hdf hr hY
    (fun w mg fa h KX G hmg => by
      obtain ⟨f, fd, m, hb, hf⟩ := hT w mg h KX G
      have e : (some (Value.ref f)) = some (.ref fa) := m.symm.trans hmg
      cases e
      exact ⟨fd, hb, fun base _ _ => hf base⟩)
    (fun w H a ns hl _ hS => law_sp hF hl hS _) fun _ _ _ _ _ z => z
end
end L2

end

section
set_option Elab.async false
set_option linter.all false
set_option maxRecDepth 100000
set_option maxHeartbeats 4000000
namespace L2
open PySem PySem.Spec PyProof.Rows
/-! # the text and its mirror in one judgement, over a family of contexts -/
def Star (e : Expr) (es : List Expr) : Prop := ∀ env : Env, starEach (e :: es) env = (false, eval e env) :: starEach es env
def Stars : List Expr → Prop
  | [] => True
  | e :: es => Star e es ∧ Stars es
theorem Stars.plain : ∀ {es : List Expr}, Stars es → ∀ (env : Env) (pos : Pos), (backTo pos (starEach es env)).any (·.1) = false
  | [], _, _, _ => rfl
  | _ :: _, h, env, pos => plain_cons (h.1 env) (h.2.plain env pos)
section
variable {ι : Type}
structure ME (K : PySem.W.Frag) (X : ι → Cx) (e : Expr) (f : EF) : Prop where
  ex : ∃ t, (∀ i, PE (X i) e t) ∧ SE K t f
structure MT (K : PySem.W.Frag) (X : ι → Cx) (e : Expr) (f : TF) : Prop where
  ex : ∃ t, (∀ i, PT (X i) e t) ∧ STt K t f
structure MW (K : PySem.W.Frag) (X : ι → Cx) (e : Expr) (f : TF) : Prop where
  ex : ∃ t, (∀ i, PW (X i) e t) ∧ STt K t f
structure MA (K : PySem.W.Frag) (X : ι → Cx) (es : List Expr) (f : AF) : Prop where
  ex : ∃ t, (∀ i, PA (X i) es t) ∧ SA K t f
  st : Stars es
structure MG (K : PySem.W.Frag) (X : ι → Cx) (e : Expr) (f : GF) : Prop where
  ex : ∃ t, (∀ i, PG (X i) e t) ∧ SG K t f
structure MGs (K : PySem.W.Frag) (X : ι → Cx) (es : List Expr) (f : GsF) : Prop where
  ex : ∃ t, (∀ i, PGs (X i) es t) ∧ SGs K t f
structure MI (K : PySem.W.Frag) (X : ι → Cx) (tg e : Expr) (f : AF) : Prop where
  ex : ∃ t, (∀ i, PI (X i) tg e t) ∧ SI K t f
structure MF (K : PySem.W.Frag) (X : ι → Cx) (es : List Expr) (f : TF) : Prop where
  ex : ∃ t, (∀ i, PIfs (X i) es t) ∧ STt K t f
structure MS (K : PySem.W.Frag) (X : ι → Cx) (st : Stmt) (f : SF) : Prop where
  ex : ∃ t, (∀ i, PS (X i) st t) ∧ SS K t f
structure ML (K : PySem.W.Frag) (X : ι → Cx) (st : List Stmt) (f : SF) : Prop where
  ex : ∃ t, (∀ i, PSs (X i) st t) ∧ SS K t f
/-- primitives -/
structure Q2 (K : PySem.W.Frag) (X : ι → Cx) (o : Value → Value → Sem Value) (h : F2) : Prop where
  ex : ∃ r, (∀ i, OpR (X i) o r) ∧ P2 K r h
structure Q1 (K : PySem.W.Frag) (X : ι → Cx) (o : Value → Sem Value) (h : F1) : Prop where
  ex : ∃ r, (∀ i, UnR (X i) o r) ∧ P1 K r h
structure QN (K : PySem.W.Frag) (X : ι → Cx) (f : Value) (h : FN) : Prop where
  ex : ∃ r, (∀ i, CallR (X i) f r) ∧ PN K r h
structure QI (K : PySem.W.Frag) (X : ι → Cx) (h : F2) : Prop where
  ex : ∃ r, (∀ i, IxR (X i) r) ∧ P2 K r h
structure QS (K : PySem.W.Frag) (X : ι → Cx) (h : F3) : Prop where
  ex : ∃ r, (∀ i, PSet (X i) r) ∧ P3 K r h
structure QG (K : PySem.W.Frag) (X : ι → Cx) (h : F2) : Prop where
  ex : ∃ r, (∀ i, PGet (X i) r) ∧ P2 K r h
structure QP (K : PySem.W.Frag) (X : ι → Cx) (o : Operator) (h : F2) : Prop where
  ex : ∃ r, (∀ i, PIp (X i) o r) ∧ P2 K r h
variable {K : PySem.W.Frag} {X : ι → Cx} {a b c e : Expr} {es : List Expr} {f g h : EF} {ft gt : TF} {fa : AF} {pos : Pos}
theorem me_var (i : Nat) {x : Str} (hN : ∀ j, (X j).N[i]? = some x := by intro _; rfl) (hv : ∀ j, Vis (X j).env.scope x := by intro _; first | exact Or.inl rfl | exact Or.inr (Or.inl rfl) | exact Or.inr (Or.inr rfl)) (hd : (x == ("__debug__" : Str)) = false := by decide) (hcd : (x == ("__classdict__" : Str)) = false := by decide) :
    ME K X (.Name x pos) (fVar i) := ⟨_, fun j => pe_var (hN j) (hv j) hd hcd, se_var⟩
theorem me_int {i : Int} {j : Nat} : ME K X (.Constant (.int i) j pos) (fC (.int i)) := ⟨_, fun _ => pe_int, se_int⟩
theorem me_bl {i : Bool} {j : Nat} : ME K X (.Constant (.bool i) j pos) (fC (.bool i)) := ⟨_, fun _ => pe_bl, se_bl⟩
theorem me_op {op : Operator} {k : F2} (q : Q2 K X (binaryOp op) k) (x : ME K X a f) (y : ME K X b g) : ME K X (.BinOp a op b pos) (fOp k f g) := by
  obtain ⟨r, q1, q2⟩ := q.ex; obtain ⟨t, x1, x2⟩ := x.ex; obtain ⟨u, y1, y2⟩ := y.ex
  exact ⟨_, fun i => pe_op (q1 i) (x1 i) (y1 i), se_op q2 x2 y2⟩
theorem me_cmp {op : CmpOp} {k : F2} (q : Q2 K X (compareOp op) k) (x : ME K X a f) (y : ME K X b g) (hm : behindInMarks op b = false := by rfl) : ME K X (.Compare a [op] [b] pos) (fOp k f g) := by
  obtain ⟨r, q1, q2⟩ := q.ex; obtain ⟨t, x1, x2⟩ := x.ex; obtain ⟨u, y1, y2⟩ := y.ex
  exact ⟨_, fun i => pe_cmpR (q1 i) (x1 i) (y1 i) hm, se_op q2 x2 y2⟩
theorem ma_nil : MA K X [] fNil := ⟨⟨_, fun _ => pa_nil, sa_nil⟩, trivial⟩
theorem ma_cons (x : ME K X e f) (y : MA K X es fa) (hs : Star e es) : MA K X (e :: es) (fCons f fa) := by
  obtain ⟨t, x1, x2⟩ := x.ex; obtain ⟨u, y1, y2⟩ := y.ex
  exact ⟨⟨_, fun i => pa_cons (x1 i) (y1 i) (hs _), sa_cons x2 y2⟩, hs, y.st⟩
theorem me_lst (x : MA K X es fa) : ME K X (.List es pos) (fLst fa) := by
  obtain ⟨t, x1, x2⟩ := x.ex
  exact ⟨_, fun i => pe_lst (x1 i), se_lst x2⟩
theorem me_new (x : MA K X es fa) : ME K X (.List es pos) (fNew fa) := by
  obtain ⟨t, x1, x2⟩ := x.ex
  exact ⟨_, fun i => pe_lst (x1 i), se_new x2⟩
theorem me_ix {k : F2} (q : QI K X k) (x : ME K X a f) (y : ME K X b g) (hs : PlainIx b) : ME K X (.Subscript a b pos) (fOp k f g) := by
  obtain ⟨r, q1, q2⟩ := q.ex; obtain ⟨t, x1, x2⟩ := x.ex; obtain ⟨u, y1, y2⟩ := y.ex
  exact ⟨_, fun i => pe_ix (q1 i) (x1 i) (y1 i) hs, se_op q2 x2 y2⟩
theorem me_call {k : Nat} {x : Str} {ps : List Str} {F : FN} {p : Pos} (C : ∀ i, Callee (X i).prog (X i).w (X i).K (X i).mg (X i).base k x ps (spM K F)) (hr : ∀ i, Room k (X i).A) (y : MA K X (e :: es) fa) (hg : ∀ i, Gl (X i) x := by intro _; rfl) (hd : (x == ("__debug__" : Str)) = false := by decide) :
    ME K X (.Call (.Name x p) (e :: es) [] pos) (fCall F fa) := by
  obtain ⟨u, y1, y2⟩ := y.ex
  exact ⟨_, fun i => pe_cal (C i) (hr i) (y1 i) (hg i) hd (y.st.1 _) (y.st.2.plain _ _), se_call y2⟩
/-! tests -/
theorem mt_not (x : MT K X a ft) : MT K X (.UnaryOp .Not a pos) (gNot ft) := by
  obtain ⟨t, x1, x2⟩ := x.ex
  exact ⟨_, fun i => pt_not (x1 i), st_not x2⟩
theorem mw_or {rest : List Expr} (x : MT K X a ft) (y : MW K X (.BoolOp .Or (b :: rest) pos) gt) : MW K X (.BoolOp .Or (a :: b :: rest) pos) (gOr ft gt) := by
  obtain ⟨t, x1, x2⟩ := x.ex; obtain ⟨u, y1, y2⟩ := y.ex
  exact ⟨_, fun i => pw_or (x1 i) (y1 i), st_or x2 y2⟩
theorem mw_or1 (x : MT K X a ft) : MW K X (.BoolOp .Or [a] pos) ft := by
  obtain ⟨t, x1, x2⟩ := x.ex
  exact ⟨_, fun i => pw_or1 (x1 i), x2⟩
theorem mt_w (x : MW K X a ft) : MT K X a ft := by
  obtain ⟨t, x1, x2⟩ := x.ex
  exact ⟨_, fun i => (x1 i).pt, x2⟩
theorem mt_cmp {op : CmpOp} {k : F2} (q : Q2 K X (compareOp op) k) (x : ME K X a f) (y : ME K X b g) (hm : behindInMarks op b = false := by rfl) : MT K X (.Compare a [op] [b] pos) (gB (fOp k f g)) := by
  obtain ⟨r, q1, q2⟩ := q.ex; obtain ⟨t, x1, x2⟩ := x.ex; obtain ⟨u, y1, y2⟩ := y.ex
  exact ⟨_, fun i => pt_cmpR (q1 i) (x1 i) (y1 i) hm, st_test (se_op q2 x2 y2)⟩
theorem mt_val (x : ME K X a f) (he : ∀ (env : Env) (whole : Sem Value), isTrue a env whole = (do let v ← whole; standAt a.pos; holding [v] (truthy v)) := by intro _ _; rfl) : MT K X a (gB f) := by
  obtain ⟨t, x1, x2⟩ := x.ex
  exact ⟨_, fun i => pt_val (x1 i) (he _), st_b x2⟩
/-! what is walked, targets -/
theorem mi_rng1 {tg : Expr} {p : Pos} (hm : ∀ i, (X i).mg "range" = none) (x : MA K X [a] fa) (hg : ∀ i, Gl (X i) "range" := by intro _; rfl) : MI K X tg (.Call (.Name "range" p) [a] [] pos) (fRng1 fa) := by
  obtain ⟨t, x1, x2⟩ := x.ex
  exact ⟨_, fun i => pi_range1 (hg i) (hm i) (x1 i) (x.st.1 _), si_rng1 x2⟩
theorem mi_seq {tg : Expr} (hK : ∀ i, (X i).K = K) (x : ME K X a f) : MI K X tg a (fItems f) := by
  obtain ⟨t, x1, x2⟩ := x.ex
  exact ⟨_, fun i => pi_seqK (hK i) (x1 i), si_seq x2⟩
theorem mg_name (i : Nat) {x : Str} (hN : ∀ j, (X j).N.Nodup) (hi : ∀ j, (X j).N[i]? = some x := by intro _; rfl) (hx : ∀ j, Loc (X j).env.scope x := by intro _; first | exact Or.inl rfl | exact Or.inr rfl) (hf : ∀ j, (X j).fn x = true ∨ (X j).env.scope.names.lookup x = some .local := by intro _; first | exact .inl rfl | exact .inr rfl) :
    MG K X (.Name x pos) (hName i) := ⟨_, fun j => pg_name (hN j) (hi j) (hx j) (hf j), sg_name⟩
theorem mf_nil : MF K X [] gYes := ⟨_, fun _ => pifs_nil, st_yes⟩
/-! comprehensions -/
abbrev LcI (ι : Type) : Type := ι × Addr × Shared × Hp × List Addr × List (Addr × Obj)
def lcFam (X : ι → Cx) (N' : List Str) (scope : Scope) : LcI ι → Cx := fun j => lcCx (X j.1) N' scope j.2.1 j.2.2.1 j.2.2.2.1 j.2.2.2.2.1 j.2.2.2.2.2
variable {N' : List Str} {cap : List (Option Nat)} {scope : Scope} {tg iter elt : Expr} {ifs : List Expr} {gf : GF}
theorem me_lc (hc : ∀ i, (X i).calm = true) (S : ∀ i, LcSc (X i) N' cap scope) (x : MI K X tg iter fa) (y : MG K (lcFam X N' scope) tg gf) (z : MF K (lcFam X N' scope) ifs ft) (w : ME K (lcFam X N' scope) elt f) (hs : ∀ (env : Env) (x : Value), foldedSetIterable iter env x = pure x := by intro _ _; rfl) :
    ME K X (.ListComp elt [⟨tg, iter, ifs, 0⟩] scope pos) (fLc cap fa gf ft f) := by
  obtain ⟨t, x1, x2⟩ := x.ex; obtain ⟨u, y1, y2⟩ := y.ex; obtain ⟨v, z1, z2⟩ := z.ex; obtain ⟨o, w1, w2⟩ := w.ex
  exact ⟨_, fun i => pe_lc (hc i) (S i) (x1 i) (fun C s H fp pn => y1 (i, C, s, H, fp, pn)) (fun C s H fp pn => z1 (i, C, s, H, fp, pn)) (fun C s H fp pn => w1 (i, C, s, H, fp, pn)) (hs _), se_lc x2 y2 z2 w2⟩
/-! statements -/
variable {st : Stmt} {sts : List Stmt} {sf sg : SF}
theorem ml_nil : ML K X [] sNext := ⟨_, fun _ => pss_nil, ss_next⟩
theorem ml_one (x : MS K X st sf) : ML K X [st] sf := by
  obtain ⟨t, x1, x2⟩ := x.ex
  exact ⟨_, fun i => pss_one (x1 i), x2⟩
theorem ml_cons (x : MS K X st sf) (y : ML K X sts sg) : ML K X (st :: sts) (sSeq sf sg) := by
  obtain ⟨t, x1, x2⟩ := x.ex; obtain ⟨u, y1, y2⟩ := y.ex
  exact ⟨_, fun i => pss_cons (x1 i) (y1 i), ss_seq x2 y2⟩
theorem ms_ret (x : ME K X e f) : MS K X (.Return (some e) pos) (sRet f) := by
  obtain ⟨t, x1, x2⟩ := x.ex
  exact ⟨_, fun i => ps_ret (x1 i), ss_ret x2⟩
theorem ms_if {sts' : List Stmt} (x : MT K X c ft) (y : ML K X sts sf) (z : ML K X sts' sg) : MS K X (.If c sts sts' pos) (sIf ft sf sg) := by
  obtain ⟨t, x1, x2⟩ := x.ex; obtain ⟨u, y1, y2⟩ := y.ex; obtain ⟨v, z1, z2⟩ := z.ex
  exact ⟨_, fun i => ps_if (x1 i) (y1 i) (z1 i), ss_if x2 y2 z2⟩
theorem ms_for (hp : ∀ i, PassesOwn (model (X i).prog (X i).w) (X i).A (X i).env (X i).xe) (hc : ∀ i, (X i).calm = true) (x : MI K X tg iter fa) (y : MG K X tg gf) (z : ML K X sts sf) (hs : ∀ (env : Env) (x : Value), foldedSetIterable iter env x = pure x := by intro _ _; rfl) : MS K X (.For tg iter sts [] pos) (sFor fa gf sf) := by
  obtain ⟨t, x1, x2⟩ := x.ex; obtain ⟨u, y1, y2⟩ := y.ex; obtain ⟨v, z1, z2⟩ := z.ex
  exact ⟨_, fun i => ps_for (hp i) (hc i) (x1 i) (y1 i) (z1 i) (hs _), ss_for x2 y2 z2⟩
theorem ms_set (i : Nat) {x' : Str} {pos' : Pos} (hN : ∀ j, (X j).N.Nodup) (x : ME K X e f) (hi : ∀ j, (X j).N[i]? = some x' := by intro _; rfl) (hx : ∀ j, Loc (X j).env.scope x' := by intro _; first | exact Or.inl rfl | exact Or.inr rfl) (hs : ∀ j, swapsWith e (some (.Name x' pos')) pos.line (X j).env = pure false := by intro _; rfl)
    (hf : ∀ j, (X j).fn x' = true ∨ (X j).env.scope.names.lookup x' = some .local := by intro _; first | exact .inl rfl | exact .inr rfl) : MS K X (.Assign [.Name x' pos'] e pos) (sAsg f (hName i)) := by
  obtain ⟨t, x1, x2⟩ := x.ex
  exact ⟨_, fun j => ps_set (hN j) (hi j) (hx j) (x1 j) (hs j) (hf j), ss_asg x2 sg_name⟩
/-! primitives -/
theorem q_add (hK : ∀ i, (X i).K = K) : Q2 K X (binaryOp .Add) addX := ⟨_, fun i => kAdd (hK i), p2_addX⟩
theorem q_mod : Q2 K X (binaryOp .Mod) modI := ⟨_, fun _ => op_mod, p2_mod⟩
theorem q_pow : Q2 K X (binaryOp .Pow) powI := ⟨_, fun _ => op_pow, p2_pow⟩
theorem q_eq (hK : ∀ i, (X i).K = K) (hu : ∀ i, (X i).A.units + 64 < cLine) : Q2 K X (compareOp .Eq) (eqX false) := ⟨_, fun i => kEq (hK i) (hu i), p2_eqX⟩
theorem q_ne (hK : ∀ i, (X i).K = K) (hu : ∀ i, (X i).A.units + 64 < cLine) : Q2 K X (compareOp .NotEq) (eqX true) := ⟨_, fun i => kNe (hK i) (hu i), p2_neX⟩
theorem q_ix (hK : ∀ i, (X i).K = K) : QI K X ixF := ⟨_, fun i => kIx (hK i), p2_ixK⟩
end
/-! a def -/
section
variable {P : Program} {w : World} {K : PySem.W.Frag} {mg : Str → Option Value}
theorem Def.okG {base : Heap} {x : Str} {st : Stmt} {N ps : List Str} {k : Nat} {b : SF} (D : Def K mg x st) (S : FnScope N ps (defScope st))
    (hb : ∀ (kV doc pm : Value) (an : Option Addr) (cdv ct : Value) (us : List Value), us.length = ps.length → bindArgs (PySem.W.fnOf x x (defArgs st) (defBody st) (defScope st) .none kV doc pm an cdv ct) ⟨us, []⟩ = pure (ps.zip us))
    (hbody : ∀ (f : Addr) (cdv : Value) (A : Around) (outer : List Env) (s : Shared) (H : Hp) (E : XK), Room k (A.deeper (envOfC x (defScope st) s.heap.objs.size f cdv)) →
      ML K (fun _ : Unit => (cxOf CX0 P w K mg base N x (defScope st) f cdv A outer s H E).nox) (defBody st) b) : Callee P w K mg base (k + 1) x ps (spM K (fnF ps.length N.length b)) :=
  D.okM S hb fun f cdv A outer s H E hr => by
    obtain ⟨t, h1, h2⟩ := (hbody f cdv A outer s H E hr).ex
    exact ⟨t, h1 (), h2⟩
theorem Def.okLG {x p : Str} {st : Stmt} {N : List Str} {k : Nat} {b : SF} {F : FN} (D : Def K mg x st) (S : FnScope N [p] (defScope st)) (hF : F = fnF 1 N.length b)
    (hb : ∀ (kV doc pm : Value) (an : Option Addr) (cdv ct : Value) (us : List Value), us.length = [p].length → bindArgs (PySem.W.fnOf x x (defArgs st) (defBody st) (defScope st) .none kV doc pm an cdv ct) ⟨us, []⟩ = pure ([p].zip us))
    (hbody : ∀ (base : Heap) (f : Addr) (cdv : Value) (A : Around) (outer : List Env) (s : Shared) (H : Hp) (E : XK), Room k (A.deeper (envOfC x (defScope st) s.heap.objs.size f cdv)) →
      ML K (fun _ : Unit => (cxOf CX0 P w K mg base N x (defScope st) f cdv A outer s H E).nox) (defBody st) b) :
    ∃ f fd, mg x = some (.ref f) ∧ (∀ (s : Shared) (u : Value), BindsTo s fd ⟨[u], []⟩ [(p, u)]) ∧ ∀ base, FnOk P w K mg base CX0 (k + 1) f fd [p] (spM K F) :=
  D.okL S hF hb fun base f cdv A outer s H E hr => by
    obtain ⟨t, h1, h2⟩ := (hbody base f cdv A outer s H E hr).ex
    exact ⟨t, h1 (), h2⟩
end
end L2

end

section
set_option Elab.async false
set_option linter.all false
set_option maxRecDepth 100000
set_option maxHeartbeats 4000000
namespace HT
open PySem PyProof.Rows PySem.Spec
section
variable {prog : Program} {w : World} {A : Around} {E : Value → Shared → Prop} {s : Shared}
end
end HT
namespace L2
open PySem PySem.Spec PyProof.Rows

/-! ### slices -/
abbrev OF := Ga → Sto → Option (Option Int × Sto)
section
variable {K : PySem.W.Frag}
def SO (K : PySem.W.Frag) (t : TO) (f : OF) : Prop := ∀ γ M b M', f γ M = some (b, M') → ∀ (W : Wd) (H : Hp) (σ : St) (Q : Option Int → Hp → Prop), Good K W M H → RepS K W γ σ → (∀ W' H', W.Ext W' → Good K W' M' H' → Q b H') → t σ H Q
theorem RepAll.drop {H : Hp} : ∀ {ds : List PyData} {vs : List V} (n : Nat), RepAll K H ds vs → RepAll K H (ds.drop n) (vs.drop n)
  | _, _, 0, h => h
  | [], vs, n + 1, h => by rw [show vs = [] from h]; rfl
  | d :: ds, vs, n + 1, h => by
    obtain ⟨v, r, rfl, _, h3⟩ := h
    exact RepAll.drop n h3
theorem RepAll.take {H : Hp} : ∀ {ds : List PyData} {vs : List V} (n : Nat), RepAll K H ds vs → RepAll K H (ds.take n) (vs.take n)
  | _, _, 0, h => rfl
  | [], vs, n + 1, h => by rw [show vs = [] from h]; rfl
  | d :: ds, vs, n + 1, h => by
    obtain ⟨v, r, rfl, h2, h3⟩ := h
    exact ⟨v, r.take n, rfl, h2, RepAll.take n h3⟩
/-! ### int(x) -/
/-! ### methods of a builtin -/
end
/-! ### the rules -/
section
variable {ι : Type} {K : PySem.W.Frag} {X : ι → Cx} {a b c e o : Expr} {es : List Expr} {f g h : EF} {fa : AF} {pos : Pos}
structure MO (K : PySem.W.Frag) (X : ι → Cx) (e : Option Expr) (f : OF) : Prop where
  ex : ∃ t, (∀ i, PO (X i) e t) ∧ SO K t f
end
end L2

end

section
set_option Elab.async false
set_option linter.all false
set_option maxRecDepth 100000
set_option maxHeartbeats 4000000
namespace L2
open PySem PySem.Spec PyProof.Rows
/-! ### repr -/
def shownOk (d : PyData) : Bool := d.showable && decide (d.depth ≤ 64) && decide (d.shown.length ≤ sizeLine)
def reprF : FN := fun xs M => match xs with
  | [.d x] => if shownOk x = true then some (.d (.str x.shown), M) else none
  | _ => none
/-! ### a def by nothing -/
/-! ### {} and {k: v, ..} as data -/
end L2

end

section
set_option Elab.async false
set_option linter.all false
set_option maxRecDepth 100000
set_option maxHeartbeats 4000000
namespace L2
open PySem PySem.Spec PyProof.Rows
section
variable {K : PySem.W.Frag}
def SPs (K : PySem.W.Frag) : List (TE × TE) → List (EF × EF) → Prop := Paired fun t f => SE K t.1 f.1 ∧ SE K t.2 f.2
end
section
variable {ι : Type} {K : PySem.W.Frag} {X : ι → Cx}
structure MD (K : PySem.W.Frag) (X : ι → Cx) (pos : Pos) (ks : List (Option Expr)) (vs : List Expr) (fs : List (EF × EF)) : Prop where
  ex : ∃ ts, (∀ i, PPs (X i) pos ks vs ts) ∧ SPs K ts fs
end
end L2

end

section
set_option Elab.async false
set_option linter.all false
set_option maxRecDepth 100000
set_option maxHeartbeats 4000000
namespace L2
open PySem PySem.Spec PyProof.Rows
/-! ### how long a shown piece of data is -/
mutual
def wt : PyData → Nat
  | .none => 4
  | .bool _ => 5
  | .int _ => 2000
  | .str x => (reprText x).length
  | .list xs => wtAll xs + 3
  | .tuple xs => wtAll xs + 3
  | .dict kvs => wtKv kvs + 3
def wtAll : List PyData → Nat
  | [] => 0
  | x :: xs => wt x + 2 + wtAll xs
def wtKv : List (PyData × PyData) → Nat
  | [] => 0
  | (k, v) :: r => wt k + wt v + 4 + wtKv r
end
mutual
def oks : PyData → Bool
  | .none => true
  | .bool _ => true
  | .int i => decide (i.natAbs < 2 ^ 1900)
  | .str _ => true
  | .list xs => oksAll xs
  | .tuple xs => oksAll xs
  | .dict kvs => oksKv kvs
def oksAll : List PyData → Bool
  | [] => true
  | x :: xs => oks x && oksAll xs
def oksKv : List (PyData × PyData) → Bool
  | [] => true
  | (k, v) :: r => oks k && oks v && oksKv r
end
theorem int_log {i : Int} (h : i.natAbs < 2 ^ 1900) : i.natAbs.log2 < 1900 := by
  by_cases h0 : i.natAbs = 0
  · rw [h0]; decide +kernel
  · exact (Nat.log2_lt h0).mpr h
theorem int_len {i : Int} (h : i.natAbs < 2 ^ 1900) : ((toString i : String) : Str).length ≤ 2000 := by
  have h1 := int_text_length_le (k := 1900) (by decide) (int_log h)
  show (Str.ofString (toString i)).length ≤ 2000
  rw [PySem.ofString_length]
  omega
mutual
theorem shown_le : ∀ d : PyData, oks d = true → d.shown.length ≤ wt d
  | .none, _ => by decide
  | .bool b, _ => by cases b <;> decide
  | .int i, h => int_len (of_decide_eq_true h)
  | .str x, _ => Nat.le_refl _
  | .list xs, h => by
    have := shownAll_le xs h
    have h2 := listText_len_le (PyData.shownAll xs)
    show (listText (PyData.shownAll xs)).length ≤ wtAll xs + 3
    omega
  | .tuple xs, h => by
    have := shownAll_le xs h
    have h2 := tupleText_len_le (PyData.shownAll xs)
    show (tupleText (PyData.shownAll xs)).length ≤ wtAll xs + 3
    omega
  | .dict kvs, h => by
    have := shownKv_le kvs h
    have h2 := dictText_len_le (PyData.shownKv kvs)
    show (dictText (PyData.shownKv kvs)).length ≤ wtKv kvs + 3
    omega
theorem shownAll_le : ∀ xs : List PyData, oksAll xs = true → ((PyData.shownAll xs).map (·.length)).sum + 2 * (PyData.shownAll xs).length ≤ wtAll xs
  | [], _ => by simp [PyData.shownAll, wtAll]
  | x :: xs, h => by
    unfold oksAll at h
    rw [Bool.and_eq_true] at h
    have h1 := shown_le x h.1
    have h2 := shownAll_le xs h.2
    simp only [PyData.shownAll, wtAll, List.map_cons, List.sum_cons, List.length_cons]
    omega
theorem shownKv_le : ∀ kvs : List (PyData × PyData), oksKv kvs = true → ((PyData.shownKv kvs).map (·.length)).sum + 2 * (PyData.shownKv kvs).length ≤ wtKv kvs
  | [], _ => by simp [PyData.shownKv, wtKv]
  | (k, v) :: r, h => by
    unfold oksKv at h
    rw [Bool.and_eq_true, Bool.and_eq_true] at h
    have h1 := shown_le k h.1.1
    have h2 := shown_le v h.1.2
    have h3 := shownKv_le r h.2
    have e : (PyData.shown k ++ ": " ++ PyData.shown v).length = (PyData.shown k).length + 2 + (PyData.shown v).length := by
      rw [strLen_append, strLen_append]; rfl
    simp only [PyData.shownKv, wtKv, List.map_cons, List.sum_cons, List.length_cons, e]
    omega
end
mutual
theorem showable_of : ∀ d : PyData, oks d = true → d.showable = true
  | .none, _ => rfl
  | .bool _, _ => rfl
  | .int i, h => by
    have h : i.natAbs < 2 ^ 1900 := of_decide_eq_true h
    refine decide_eq_true ?_
    by_cases h0 : i.natAbs = 0
    · rw [h0]; decide +kernel
    · exact Nat.lt_trans ((Nat.log2_lt h0).mpr h) (by decide)
  | .str _, _ => rfl
  | .list xs, h => showableAll_of xs h
  | .tuple xs, h => showableAll_of xs h
  | .dict kvs, h => showableKv_of kvs h
theorem showableAll_of : ∀ xs : List PyData, oksAll xs = true → PyData.showableAll xs = true
  | [], _ => rfl
  | x :: xs, h => by
    unfold oksAll at h
    rw [Bool.and_eq_true] at h
    show (PyData.showable x && PyData.showableAll xs) = true
    rw [showable_of x h.1, showableAll_of xs h.2]
    rfl
theorem showableKv_of : ∀ kvs : List (PyData × PyData), oksKv kvs = true → PyData.showableKv kvs = true
  | [], _ => rfl
  | (k, v) :: r, h => by
    unfold oksKv at h
    rw [Bool.and_eq_true, Bool.and_eq_true] at h
    show (PyData.showable k && PyData.showable v && PyData.showableKv r) = true
    rw [showable_of k h.1.1, showable_of v h.1.2, showableKv_of r h.2]
    rfl
end
/-- data that may be shown -/
structure Fit (n m : Nat) (d : PyData) : Prop where
  ok : oks d = true
  wt : wt d ≤ n
  dp : d.depth ≤ m
theorem Fit.shown {n m : Nat} {d : PyData} (f : Fit n m d) (hn : n ≤ sizeLine := by decide) (hm : m ≤ 64 := by decide) : shownOk d = true := by
  unfold shownOk
  rw [showable_of d f.ok, decide_eq_true (Nat.le_trans f.dp hm), decide_eq_true (Nat.le_trans (Nat.le_trans (shown_le d f.ok) f.wt) hn)]
  rfl
theorem Fit.mono {n m n' m' : Nat} {d : PyData} (f : Fit n m d) (hn : n ≤ n') (hm : m ≤ m') : Fit n' m' d := ⟨f.ok, Nat.le_trans f.wt hn, Nat.le_trans f.dp hm⟩
theorem reprF_of {n m : Nat} {d : PyData} {M : Sto} (f : Fit n m d) (hn : n ≤ sizeLine := by decide) (hm : m ≤ 64 := by decide) : reprF [.d d] M = some (.d (.str d.shown), M) := by
  unfold reprF
  dsimp only
  rw [if_pos (f.shown hn hm)]
end L2

end

section
set_option Elab.async false
set_option linter.all false
set_option maxRecDepth 100000
set_option maxHeartbeats 4000000
namespace L2
open PySem PySem.Spec PyProof.Rows
/-! # objects of the text's own classes: a cell each -/
section
variable {K : PySem.W.Frag}
theorem look_pair {W : Wd} {f : Str} {x : CD} : ∀ {fs : List (Str × CD)} {us : List (Str × V)}, Paired (fun p q => p.1 = q.1 ∧ RepV K W p.2 q.2) fs us → fs.lookup f = some x → ∃ v, us.lookup f = some v ∧ RepV K W x v
  | _, _, .nil, h => by cases h
  | (g, y) :: fs, (g', u) :: us, .cons h t, e => by
    obtain ⟨h1, h2⟩ := h
    have h1 : g = g' := h1
    subst h1
    rw [List.lookup_cons] at e ⊢
    by_cases q : (f == g) = true
    · rw [q] at e ⊢; cases e; exact ⟨u, rfl, h2⟩
    · have q' : (f == g) = false := by simpa using q
      rw [q'] at e ⊢; exact look_pair t e
/-- C(..) -/
def isNon : CD → Bool
  | .d .none => true
  | _ => false
theorem isNon_of {x : CD} (h : isNon x = true) : x = .d .none := by
  cases x with
  | c n => cases h
  | d x => cases x <;> first | rfl | cases h
end
/-! ### the text's side -/
structure MCallee (P : Program) (w : World) (K : PySem.W.Frag) (mg : Str → Option Value) (base : Heap) (k : Nat) (nm m : Str) (ps : List Str) (sp : Sp) : Prop where
  ex : ∃ f fd, FnOk P w K mg base CX0 k f fd ps sp ∧ Meth K (clOf K nm) m f ∧ Binds K fd ps []
structure ICallee (P : Program) (w : World) (K : PySem.W.Frag) (mg : Str → Option Value) (base : Heap) (k : Nat) (nm : Str) (ps : List Str) (sp : Sp) : Prop where
  ex : ∃ f fd, FnOk P w K mg base CX0 k f fd ps sp ∧ Mk K (clOf K nm) f ∧ Binds K fd ps [] ∧ mg nm = some (.ref (clOf K nm))
section
variable {ι : Type} {K : PySem.W.Frag} {X : ι → Cx} {a b c e o : Expr} {es : List Expr} {f g h : EF} {fa : AF} {pos : Pos}
end
/-! ### methods as defs of the text -/
structure MDef (K : PySem.W.Frag) (nm m qual : Str) (st : Stmt) : Prop where
  ex : ∃ f fd, Fun K m qual st f fd ∧ PySem.W.findIn K (.ref (clOf K nm)) m = some (some (.ref f)) ∧ PySem.W.isFn K (.ref f) = true
section
variable {P : Program} {w : World} {K : PySem.W.Frag} {mg : Str → Option Value} {base : Heap}
theorem Fun.okQ {x qual : Str} {st : Stmt} {N ps : List Str} {k : Nat} {b : SF} {f : Addr} {fd : FuncData} (F : Fun K x qual st f fd) (S : FnScope N ps (defScope st))
    (hbody : ∀ (f : Addr) (cdv : Value) (A : Around) (outer : List Env) (s : Shared) (H : Hp) (E : XK), Room k (A.deeper (envOfC qual (defScope st) s.heap.objs.size f cdv)) →
      ML K (fun _ : Unit => (cxOf CX0 P w K mg base N qual (defScope st) f cdv A outer s H E).nox) (defBody st) b) : FnOk P w K mg base CX0 (k + 1) f fd ps (spM K (fnF ps.length N.length b)) := by
  have len : ∀ vs H Q E, spM K (fnF ps.length N.length b) vs H Q E → vs.length = ps.length := fun vs H Q E h => by
    obtain ⟨xs, M, W, y, M', G, R, hf, _⟩ := h
    by_cases hl : xs.length = ps.length
    · rw [← Paired.len R]; exact hl
    · unfold fnF at hf
      rw [if_neg hl] at hf; cases hf
  refine F.ok S len fun cdv A outer s H vs Q E hr h => ?_
  obtain ⟨t, hP, hS⟩ := (hbody f cdv A outer s H E hr).ex
  refine ⟨t, hP (), ?_⟩
  obtain ⟨xs, M, W, y, M', G, R, hf, k⟩ := h
  by_cases hl : xs.length = ps.length
  · unfold fnF at hf
    rw [if_pos hl] at hf
    obtain ⟨⟨o, M1⟩, h1, hf⟩ := bindE hf
    have hR : RepS K W (xs.map some ++ List.replicate (N.length - xs.length) none) (start N vs) := by
      unfold start
      rw [← Paired.len R]
      exact Paired.app (RepVs.some R) (rep_none _)
    refine hS _ _ _ _ h1 W H _ _ G hR fun W1 H1 e1 G1 => ?_
    cases o with
    | rt x => cases hf; exact fun v r => k v W1 H1 e1 G1 r
    | nx γ => cases hf; exact fun σ r => k .non W1 H1 e1 G1 rfl
    | bk γ => cases hf
    | ct γ => cases hf
  · unfold fnF at hf
    rw [if_neg hl] at hf; cases hf
theorem MDef.okM {nm m qual : Str} {st : Stmt} {N ps : List Str} {k : Nat} {b : SF} (D : MDef K nm m qual st) (S : FnScope N ps (defScope st))
    (hb : ∀ (kV doc pm : Value) (an : Option Addr) (cdv ct : Value) (us : List Value), us.length = ps.length → bindArgs (PySem.W.fnOf m qual (defArgs st) (defBody st) (defScope st) .none kV doc pm an cdv ct) ⟨us, []⟩ = pure (ps.zip us))
    (hbody : ∀ (f : Addr) (cdv : Value) (A : Around) (outer : List Env) (s : Shared) (H : Hp) (E : XK), Room k (A.deeper (envOfC qual (defScope st) s.heap.objs.size f cdv)) →
      ML K (fun _ : Unit => (cxOf CX0 P w K mg base N qual (defScope st) f cdv A outer s H E).nox) (defBody st) b) : MCallee P w K mg base (k + 1) nm m ps (spM K (fnF ps.length N.length b)) := by
  obtain ⟨f, fd, F, h1, h2⟩ := D.ex
  exact ⟨f, fd, F.okQ S hbody, ⟨h1, h2, F.kp⟩, F.binds hb⟩
end
end L2

end

section
set_option Elab.async false
set_option linter.all false
set_option maxRecDepth 100000
set_option maxHeartbeats 4000000
namespace L2
open PySem PySem.Spec PyProof.Rows
/-! # more of the given functions: reverse, min, max -/
section
variable {K : PySem.W.Frag}
end
section
variable {ι : Type} {K : PySem.W.Frag} {X : ι → Cx} {a b c e o : Expr} {es : List Expr} {f g h : EF} {fa : AF} {pos : Pos}
end
end L2

end

section
set_option Elab.async false
set_option linter.all false
set_option maxRecDepth 100000
set_option maxHeartbeats 4000000
namespace L2
open PySem PySem.W PyProof.Rows
/-! # what sorted makes of less than 64 things, by any way of comparing that is an order -/
/-- a sort's questions run by lt, all of them within n -/
def KS {α : Type} (lt : Nat → Nat → Bool) (n : Nat) : KasT α → (α → Prop) → Prop
  | .ret a, Q => Q a
  | .ask i j k, Q => i < n ∧ j < n ∧ KS lt n (k (lt i j)) Q
theorem KS.bind {α β : Type} {lt : Nat → Nat → Bool} {n : Nat} {f : α → KasT β} {Q : β → Prop} : ∀ {t : KasT α}, KS lt n t (fun a => KS lt n (f a) Q) → KS lt n (t.bind f) Q
  | .ret _, h => h
  | .ask _ _ _, h => ⟨h.1, h.2.1, KS.bind h.2.2⟩
theorem KS.mono {α : Type} {lt : Nat → Nat → Bool} {n : Nat} {Q R : α → Prop} (m : ∀ a, Q a → R a) : ∀ {t : KasT α}, KS lt n t Q → KS lt n t R
  | .ret _, h => m _ h
  | .ask _ _ _, h => ⟨h.1, h.2.1, KS.mono m h.2.2⟩
section
variable {lt : Nat → Nat → Bool} {n : Nat}
/-- an order, told by what is less -/
structure Ord2 (lt : Nat → Nat → Bool) : Prop where
  as : ∀ a b, lt a b = true → lt b a = false
  tr : ∀ a b c, lt b a = false → lt c b = false → lt c a = false
theorem Ord2.up (o : Ord2 lt) {a b c : Nat} (h : lt c a = true) (h' : lt b a = false) : lt c b = true := by
  cases e : lt c b with
  | true => rfl
  | false => rw [o.tr _ _ _ h' e] at h; cases h
def Inv2 (n : Nat) (p : Array Nat) : Prop := p.Perm (List.range n).toArray
theorem Inv2.sz {p : Array Nat} (h : Inv2 n p) : p.size = n := by
  have := (Array.perm_iff_toList_perm.mp h).length_eq
  simpa using this
theorem Inv2.ent {p : Array Nat} (h : Inv2 n p) (h0 : 0 < n) (k : Nat) : p.getD k 0 < n := by
  rw [Array.getD_eq_getD_getElem?]
  cases e : p[k]? with
  | none => exact h0
  | some x =>
    have hm : x ∈ p := Array.mem_of_getElem? e
    have := (h.mem_iff (a := x)).mp hm
    simpa using this
def SortedT (lt : Nat → Nat → Bool) (p : Array Nat) (n : Nat) : Prop := ∀ i j, i < j → j < n → lt (p.getD j 0) (p.getD i 0) = false
def DescT (lt : Nat → Nat → Bool) (p : Array Nat) (n : Nat) : Prop := ∀ i j, i < j → j < n → lt (p.getD i 0) (p.getD j 0) = false
def EqRun (lt : Nat → Nat → Bool) (p : Array Nat) (n q : Nat) : Prop := ∀ i j, n ≤ i + q + 1 → i < j → j < n → lt (p.getD j 0) (p.getD i 0) = false
theorem SortedT.ext (o : Ord2 lt) {p : Array Nat} {m : Nat} (h : SortedT lt p m) (h1 : 1 ≤ m) (h2 : lt (p.getD m 0) (p.getD (m - 1) 0) = false) : SortedT lt p (m + 1) := by
  intro i j hij hj
  by_cases e : j = m
  · subst e
    by_cases e' : i = j - 1
    · subst e'; exact h2
    · exact o.tr _ _ _ (h i (j - 1) (by omega) (by omega)) h2
  · exact h i j hij (by omega)
theorem DescT.ext (o : Ord2 lt) {p : Array Nat} {m : Nat} (h : DescT lt p m) (h1 : 1 ≤ m) (h2 : lt (p.getD (m - 1) 0) (p.getD m 0) = false) : DescT lt p (m + 1) := by
  intro i j hij hj
  by_cases e : j = m
  · subst e
    by_cases e' : i = j - 1
    · subst e'; exact h2
    · exact o.tr _ _ _ h2 (h i (j - 1) (by omega) (by omega))
  · exact h i j hij (by omega)
theorem ks_asc (o : Ord2 lt) {p : Array Nat} (hp : Inv2 n p) (h0 : 0 < n) {Q : Nat → Prop} : ∀ (f m : Nat), 1 ≤ m → SortedT lt p m → (∀ r, m ≤ r → r ≤ m + f → SortedT lt p r → (r < m + f → lt (p.getD r 0) (p.getD (r - 1) 0) = true) → Q r) → KS lt n (kas_asc p f m) Q
  | 0, m, h1, hs, k => by
    rw [kas_asc.eq_def]
    exact k m (Nat.le_refl _) (Nat.le_refl _) hs (fun h => absurd h (Nat.lt_irrefl _))
  | f + 1, m, h1, hs, k => by
    rw [kas_asc.eq_def]
    refine ⟨hp.ent h0 _, hp.ent h0 _, ?_⟩
    cases e : lt (p.getD m 0) (p.getD (m - 1) 0) with
    | true => exact k m (Nat.le_refl _) (by omega) hs (fun _ => e)
    | false => exact ks_asc o hp h0 f (m + 1) (by omega) (hs.ext o h1 e) fun r a b c d => k r (by omega) (by omega) c (fun z => d (by omega))
theorem rev_perm {p : Array Nat} (hp : Inv2 n p) (i j : Nat) : Inv2 n (kas_rev p i j) := (mirror_perm p i j _).trans hp
theorem rev_get {p : Array Nat} {i j : Nat} (hj : j ≤ p.size) (k : Nat) : (kas_rev p i j).getD k 0 = if i ≤ k ∧ k < j then p.getD (i + j - 1 - k) 0 else p.getD k 0 := by
  rw [Array.getD_eq_getD_getElem?, show (kas_rev p i j)[k]? = _ from getElem?_mirror_all hj k]
  by_cases e : i ≤ k ∧ k < j
  · rw [if_pos e, if_pos e, Array.getD_eq_getD_getElem?]
  · rw [if_neg e, if_neg e, Array.getD_eq_getD_getElem?]
theorem rev_desc (o : Ord2 lt) {p : Array Nat} {lo hi m : Nat} (hm : m ≤ p.size) (hh : hi ≤ m) (d : DescT lt p m) (e : ∀ i j, lo ≤ i → i < j → j < hi → lt (p.getD j 0) (p.getD i 0) = false) : DescT lt (kas_rev p lo hi) m := by
  intro i j hij hj
  rw [rev_get (by omega), rev_get (by omega)]
  by_cases a : lo ≤ i ∧ i < hi
  · rw [if_pos a]
    by_cases b : lo ≤ j ∧ j < hi
    · rw [if_pos b]; exact e _ _ (by omega) (by omega) (by omega)
    · rw [if_neg b]; exact d _ _ (by omega) hj
  · rw [if_neg a]
    by_cases b : lo ≤ j ∧ j < hi
    · rw [if_pos b]; exact d _ _ (by omega) (by omega)
    · rw [if_neg b]; exact d _ _ hij hj
theorem ks_desc (o : Ord2 lt) (h0 : 0 < n) {Q : Array Nat × Nat × Nat → Prop} : ∀ (f : Nat) (p : Array Nat) (m q : Nat), Inv2 n p → 1 ≤ m → m + f ≤ n → DescT lt p m → EqRun lt p m q → q + 1 ≤ m →
    (∀ p' m' q', Inv2 n p' → m ≤ m' → m' ≤ m + f → DescT lt p' m' → EqRun lt p' m' q' → q' + 1 ≤ m' → Q (p', m', q')) → KS lt n (kas_desc f p m q) Q
  | 0, p, m, q, hp, h1, h2, hd, he, hq, k => by
    rw [kas_desc.eq_def]
    exact k p m q hp (Nat.le_refl _) (Nat.le_refl _) hd he hq
  | f + 1, p, m, q, hp, h1, h2, hd, he, hq, k => by
    rw [kas_desc.eq_def]
    refine ⟨hp.ent h0 _, hp.ent h0 _, ?_⟩
    have hsz := hp.sz
    have e0 : ∀ p' : Array Nat, EqRun lt p' (m + 1) 0 := fun p' i j a b c => by omega
    cases c : lt (p.getD m 0) (p.getD (m - 1) 0) with
    | true =>
      have hd1 := hd.ext o h1 (o.as _ _ c)
      dsimp only; rw [if_pos rfl]
      by_cases hq0 : q > 0
      · rw [if_pos hq0]
        exact ks_desc o h0 f _ (m + 1) 0 (rev_perm hp _ _) (by omega) (by omega) (rev_desc o (by omega) (by omega) hd1 (fun i j a b d => he i j (by omega) b (by omega))) (e0 _) (by omega) fun p' m' q' a b c' d e g => k p' m' q' a (by omega) (by omega) d e g
      · rw [if_neg hq0]
        exact ks_desc o h0 f _ (m + 1) 0 hp (by omega) (by omega) hd1 (e0 _) (by omega) fun p' m' q' a b c' d e g => k p' m' q' a (by omega) (by omega) d e g
    | false =>
      dsimp only; rw [if_neg Bool.false_ne_true]
      refine ⟨hp.ent h0 _, hp.ent h0 _, ?_⟩
      cases d : lt (p.getD (m - 1) 0) (p.getD m 0) with
      | true =>
        dsimp only; rw [if_pos rfl]
        exact k p m q hp (Nat.le_refl _) (by omega) hd he hq
      | false =>
        dsimp only; rw [if_neg Bool.false_ne_true]
        refine ks_desc o h0 f p (m + 1) (q + 1) hp (by omega) (by omega) (hd.ext o h1 d) ?_ (by omega) fun p' m' q' a b c' d e g => k p' m' q' a (by omega) (by omega) d e g
        intro i j a b e
        by_cases ej : j = m
        · subst ej
          by_cases ei : i = j - 1
          · subst ei; exact c
          · exact o.tr _ _ _ (he i (j - 1) (by omega) (by omega) (by omega)) c
        · exact he i j (by omega) b (by omega)
def Part (lt : Nat → Nat → Bool) (n : Nat) (r : Nat × Array Nat) : Prop := Inv2 n r.2 ∧ 1 ≤ r.1 ∧ r.1 ≤ n ∧ SortedT lt r.2 r.1
theorem ks_tail3 (o : Ord2 lt) (h0 : 0 < n) {p : Array Nat} {m : Nat} (hp : Inv2 n p) (h1 : 1 ≤ m) (h2 : m ≤ n) (hd : DescT lt p m) : KS lt n (kas_tail3 m n p) (Part lt n) := by
  have hsz := hp.sz
  rw [kas_tail3.eq_def]
  refine KS.bind (ks_asc o (rev_perm hp 0 m) h0 _ _ h1 ?_ fun r a b c _ => ⟨rev_perm hp 0 m, by omega, by omega, c⟩)
  intro i j hij hj
  rw [rev_get (by omega), rev_get (by omega), if_pos (by omega), if_pos (by omega)]
  exact hd _ _ (by omega) (by omega)
theorem ks_descPart (o : Ord2 lt) (h0 : 0 < n) {p : Array Nat} {m : Nat} (hp : Inv2 n p) (h2 : m + 1 ≤ n) (hd : DescT lt p (m + 1)) : KS lt n (kas_descPart m n p) (Part lt n) := by
  rw [kas_descPart.eq_def]
  refine KS.bind (ks_desc o h0 _ _ _ _ hp (by omega) (by omega) hd (fun i j a b c => by omega) (by omega) fun p' m' q' a b c d e g => ?_)
  have hsz := a.sz
  show KS lt n (if q' > 0 then kas_tail3 m' n (kas_rev p' (m' - (q' + 1)) m') else kas_tail3 m' n p') _
  by_cases hq : q' > 0
  · rw [if_pos hq]
    exact ks_tail3 o h0 (rev_perm a _ _) (by omega) (by omega) (rev_desc o (by omega) (Nat.le_refl _) d fun i j x y z => e i j (by omega) y z)
  · rw [if_neg hq]
    exact ks_tail3 o h0 a (by omega) (by omega) d
theorem ks_count (o : Ord2 lt) (h0 : 0 < n) {p : Array Nat} (hp : Inv2 n p) : KS lt n (kas_count n p) (Part lt n) := by
  have hsz := hp.sz
  rw [kas_count.eq_def]
  refine KS.bind (ks_asc o hp h0 _ _ (Nat.le_refl _) (fun i j a b => by omega) fun r a b c d => ?_)
  by_cases e : (r == n) = true
  · rw [if_pos e]
    exact ⟨hp, a, by omega, c⟩
  · rw [if_neg e]
    have e' : r ≠ n := by simpa using e
    have hl := d (by omega)
    by_cases g : r > 1
    · rw [if_pos g]
      refine ⟨hp.ent h0 _, hp.ent h0 _, ?_⟩
      cases l : lt (p.getD 0 0) (p.getD (r - 1) 0) with
      | true => dsimp only; rw [if_pos rfl]; exact ⟨hp, a, by omega, c⟩
      | false =>
        dsimp only; rw [if_neg Bool.false_ne_true]
        -- all alike
        have le : ∀ i j, i ≤ j → j < r → i < j ∨ i = j := fun i j x y => by omega
        have irr : ∀ x, lt x x = false := fun x => by
          cases q : lt x x with
          | false => rfl
          | true => rw [o.as _ _ q] at q; cases q
        have up : ∀ i, i < r → lt (p.getD i 0) (p.getD (r - 1) 0) = false := fun i hi => by
          have x1 : lt (p.getD i 0) (p.getD 0 0) = false := by
            by_cases z : i = 0
            · subst z; exact irr _
            · exact c 0 i (by omega) hi
          exact o.tr _ _ _ l x1
        have dn : ∀ i, i < r → lt (p.getD (r - 1) 0) (p.getD i 0) = false := fun i hi => by
          by_cases z : i = r - 1
          · subst z; exact irr _
          · exact c i (r - 1) (by omega) (by omega)
        have al : ∀ i j, i < r → j < r → lt (p.getD i 0) (p.getD j 0) = false := fun i j hi hj => o.tr _ _ _ (dn j hj) (up i hi)
        refine ks_descPart o h0 (rev_perm hp _ _) (by omega) ?_
        intro i j hij hj
        rw [rev_get (by omega), rev_get (by omega), if_pos (by omega)]
        by_cases z : j < r
        · rw [if_pos (by omega)]; exact al _ _ (by omega) (by omega)
        · rw [if_neg (by omega)]
          have : j = r := by omega
          subst this
          exact o.tr _ _ _ (o.as _ _ hl) (up _ (by omega))
    · rw [if_neg g]
      have : r = 1 := by omega
      subst this
      refine ks_descPart o h0 hp (by omega) ?_
      intro i j hij hj
      have : i = 0 := by omega
      have : j = 1 := by omega
      subst i; subst j
      exact o.as _ _ hl
theorem ks_place (o : Ord2 lt) (h0 : 0 < n) {p : Array Nat} (hp : Inv2 n p) {k : Nat} (hs : SortedT lt p k) {Q : Nat → Prop} (q : ∀ l, l ≤ k → (∀ i, i < l → lt (p.getD k 0) (p.getD i 0) = false) → (∀ i, l ≤ i → i < k → lt (p.getD k 0) (p.getD i 0) = true) → Q l) :
    ∀ (f l r : Nat), l ≤ r → r ≤ k → r - l ≤ f → (∀ i, i < l → lt (p.getD k 0) (p.getD i 0) = false) → (∀ i, r ≤ i → i < k → lt (p.getD k 0) (p.getD i 0) = true) → KS lt n (kas_place p k f l r) Q
  | 0, l, r, h1, h2, h3, a, b => by
    rw [kas_place.eq_def]
    have : l = r := by omega
    subst this
    exact q l h2 a b
  | f + 1, l, r, h1, h2, h3, a, b => by
    rw [kas_place.eq_def]
    show KS lt n (if l ≥ r then _ else _) Q
    by_cases g : l ≥ r
    · rw [if_pos g]
      have : l = r := by omega
      subst this
      exact q l h2 a b
    · rw [if_neg g]
      refine ⟨hp.ent h0 _, hp.ent h0 _, ?_⟩
      cases c : lt (p.getD k 0) (p.getD ((l + r) / 2) 0) with
      | true =>
        dsimp only; rw [if_pos rfl]
        refine ks_place o h0 hp hs q f _ _ (by omega) (by omega) (by omega) a fun i x y => ?_
        by_cases z : i = (l + r) / 2
        · subst z; exact c
        · exact o.up c (hs _ _ (by omega) y)
      | false =>
        dsimp only; rw [if_neg Bool.false_ne_true]
        refine ks_place o h0 hp hs q f _ _ (by omega) (by omega) (by omega) (fun i x => ?_) b
        by_cases z : i = (l + r) / 2
        · subst z; exact c
        · exact o.tr _ _ _ (hs i ((l + r) / 2) (by omega) (by omega)) c
theorem bub_get {p : Array Nat} {src d : Nat} (h : src < p.size) (hd : d ≤ src) (k : Nat) : (bubble p src d).getD k 0 = if k = src - d then p.getD src 0 else if src - d < k ∧ k ≤ src then p.getD (k - 1) 0 else p.getD k 0 := by
  rw [Array.getD_eq_getD_getElem?, getElem?_bubble h d hd k]
  by_cases e : k = src - d
  · rw [if_pos e, if_pos e, Array.getD_eq_getD_getElem?]
  · rw [if_neg e, if_neg e]
    by_cases e2 : src - d < k ∧ k ≤ src
    · rw [if_pos e2, if_pos e2, Array.getD_eq_getD_getElem?]
    · rw [if_neg e2, if_neg e2, Array.getD_eq_getD_getElem?]
theorem ks_bin (o : Ord2 lt) (h0 : 0 < n) {Q : Array Nat → Prop} (q : ∀ p, Inv2 n p → SortedT lt p n → Q p) : ∀ (f : Nat) (p : Array Nat) (k : Nat), Inv2 n p → k + f = n → SortedT lt p k → KS lt n (kas_bin f p k) Q
  | 0, p, k, hp, hk, hs => by
    rw [kas_bin.eq_def]
    have : k = n := by omega
    subst this
    exact q p hp hs
  | f + 1, p, k, hp, hk, hs => by
    rw [kas_bin.eq_def]
    have hsz := hp.sz
    refine KS.bind (ks_place o h0 hp hs (fun l hl a b => ?_) k 0 k (by omega) (by omega) (by omega) (fun i x => by omega) (fun i x y => by omega))
    refine ks_bin o h0 q f _ (k + 1) ((bubble_perm p k (k - l)).trans hp) (by omega) ?_
    intro i j hij hj
    rw [bub_get (by omega) (by omega), bub_get (by omega) (by omega)]
    have hkl : k - (k - l) = l := by omega
    rw [hkl]
    by_cases j1 : j = l
    · rw [if_pos j1, if_neg (by omega), if_neg (by omega)]; exact a i (by omega)
    · rw [if_neg j1]
      by_cases j2 : l < j ∧ j ≤ k
      · rw [if_pos j2]
        by_cases i1 : i = l
        · rw [if_pos i1]; exact o.as _ _ (b _ (by omega) (by omega))
        · rw [if_neg i1]
          by_cases i2 : l < i ∧ i ≤ k
          · rw [if_pos i2]; exact hs _ _ (by omega) (by omega)
          · rw [if_neg i2]; exact hs _ _ (by omega) (by omega)
      · rw [if_neg j2, if_neg (by omega), if_neg (by omega)]; exact hs _ _ hij (by omega)
/-- sorted's way: what comes out is all of it, in order -/
theorem ks_sort (o : Ord2 lt) (h0 : 0 < n) : KS lt n (kas_sort n) (fun p => Inv2 n p ∧ SortedT lt p n) := by
  unfold kas_sort
  refine KS.bind (KS.mono (fun r h => ?_) (ks_count o h0 (p := (List.range n).toArray) (Array.Perm.refl _)))
  obtain ⟨a, b, c, d⟩ := h
  by_cases e : r.fst < n
  · rw [if_pos e]
    have hm : max r.fst 1 = r.fst := by omega
    rw [hm]
    exact ks_bin o h0 (fun p x y => ⟨x, y⟩) _ _ _ a (by omega) d
  · rw [if_neg e]
    have : r.fst = n := by omega
    exact ⟨a, this ▸ d⟩
end
end L2

end

section
set_option Elab.async false
set_option linter.all false
set_option maxRecDepth 100000
set_option maxHeartbeats 4000000
namespace L2
open PySem PySem.Spec PyProof.Rows
/-! # how sorted compares two rows of data: ints, and rows of ints among them -/
def intsD : List PyData → Option (List Int)
  | [] => some []
  | .int n :: r => (intsD r).bind fun ns => some (n :: ns)
  | _ => none
def ltItem : PyData → PyData → Option Bool
  | .int a, .int b => some (decide (a < b))
  | .tuple xs, .tuple ys => (intsD xs).bind fun ns => (intsD ys).bind fun ms => some (HT.lexLt ns ms)
  | _, _ => none
def ltRow : List PyData → List PyData → Option Bool
  | [], ys => some (decide (0 < ys.length))
  | _ :: _, [] => some false
  | x :: xs, y :: ys => if PyData.eqv x y = true then ltRow xs ys else ltItem x y
section
variable {prog : Program} {w : World} {A : Around} {E : Value → Shared → Prop} {s : Shared}
end
end L2

end

section
set_option Elab.async false
set_option linter.all false
set_option maxRecDepth 100000
set_option maxHeartbeats 4000000
namespace L2
open PySem PySem.W PyProof.Rows
/-! # a sort's run, whatever the answers -/
def kRun {α : Type} (lt : Nat → Nat → Bool) : KasT α → α
  | .ret a => a
  | .ask i j k => kRun lt (k (lt i j))
def KA {α : Type} (n : Nat) : KasT α → (α → Prop) → Prop
  | .ret a, Q => Q a
  | .ask i j k, Q => i < n ∧ j < n ∧ ∀ b, KA n (k b) Q
section
variable {n : Nat}
theorem KA.bind {α β : Type} {f : α → KasT β} {Q : β → Prop} : ∀ {t : KasT α}, KA n t (fun a => KA n (f a) Q) → KA n (t.bind f) Q
  | .ret _, h => h
  | .ask _ _ _, h => ⟨h.1, h.2.1, fun b => KA.bind (h.2.2 b)⟩
theorem KA.ks {α : Type} {lt : Nat → Nat → Bool} {Q : α → Prop} : ∀ {t : KasT α}, KA n t Q → KS lt n t (fun a => a = kRun lt t ∧ Q a)
  | .ret _, h => ⟨rfl, h⟩
  | .ask i j _, h => ⟨h.1, h.2.1, KA.ks (h.2.2 (lt i j))⟩
theorem KS.run {α : Type} {lt : Nat → Nat → Bool} {Q : α → Prop} : ∀ {t : KasT α}, KS lt n t Q → Q (kRun lt t)
  | .ret _, h => h
  | .ask i j k, h => KS.run (t := k (lt i j)) h.2.2
end
end L2

end

section
set_option Elab.async false
set_option linter.all false
set_option maxRecDepth 100000
set_option maxHeartbeats 4000000
namespace L2
open PySem PySem.Spec PyProof.Rows
/-! # sorted of a list of rows -/
mutual
def onlyT : PyData → Bool
  | .int _ => true
  | .tuple xs => onlyTs xs
  | _ => false
def onlyTs : List PyData → Bool
  | [] => true
  | x :: r => onlyT x && onlyTs r
end
theorem ReadsAll.at {h : Heap} : ∀ {ds : List PyData} {vs : List Value} {as : List Addr} (i : Nat), ReadsAll h vs ds as → i < ds.length → ∃ bs, Reads h (vs.getD i .none) (ds.getD i .none) bs
  | [], _, _, i, _, hi => absurd hi (Nat.not_lt_zero _)
  | d :: ds, _, _, 0, r, _ => by cases r with | cons a b => exact ⟨_, a⟩
  | d :: ds, _, _, i + 1, r, hi => by
    cases r with
    | cons a b =>
      obtain ⟨bs, x⟩ := ReadsAll.at i b (Nat.lt_of_succ_lt_succ hi)
      exact ⟨bs, x⟩
theorem ReadsAll.len {h : Heap} : ∀ {ds : List PyData} {vs : List Value} {as : List Addr}, ReadsAll h vs ds as → vs.length = ds.length
  | [], _, _, r => by cases r; rfl
  | d :: ds, _, _, r => by
    cases r with
    | cons a b => simp [ReadsAll.len b]
section
variable {prog : Program} {w : World} {A : Around} {E : Value → Shared → Prop} {s : Shared}
/-- the first things of the rows: all ints, or all rows -/
def headI (rows : List (List PyData)) : Bool := rows.all fun r => match r with
  | .int _ :: _ => true
  | _ => false
def headT (rows : List (List PyData)) : Bool := rows.all fun r => match r with
  | .tuple _ :: _ => true
  | _ => false
end
end L2

end

section
set_option Elab.async false
set_option linter.all false
set_option maxRecDepth 100000
set_option maxHeartbeats 4000000
namespace L2
open PySem PySem.Spec PyProof.Rows
section
variable {prog : Program} {w : World} {A : Around} {E : Value → Shared → Prop} {s : Shared}
end
section
variable {X : Cx} {pins : List (Addr × Obj)} {σ : St} {H : Hp} {s : Shared} {h' : Heap}
theorem ObjOk.there {P : Program} {w : World} {H : Hp} {h : Heap} {a : Addr} {o : HO} (x : ObjOk P w H h a o) : ∃ u, h.get? a = some u := by
  induction o with
  | lst xs => obtain ⟨_, _, _, _, e⟩ := x; exact ⟨_, e⟩
  | tup xs => obtain ⟨_, _, _, _, e, _⟩ := x; exact ⟨_, e⟩
  | dK kvs => obtain ⟨_, _, _, _, o, _, _, e, _⟩ := x; exact ⟨_, e⟩
  | dT kvs => obtain ⟨_, _, _, _, o, _, _, e, _⟩ := x; exact ⟨_, e⟩
  | set S n => obtain ⟨o, _, _, _, e, _⟩ := x; exact ⟨_, e⟩
  | ins C dx fs => obtain ⟨_, _, _, e, _⟩ := x; exact ⟨_, e⟩
  | own y => exact x
  | xd fs => obtain ⟨_, ⟨_, _, _, e, _⟩, _⟩ := x; exact ⟨_, e⟩
  | rng lo hi => obtain ⟨_, _, _, e⟩ := x; exact ⟨_, e⟩
  | frz o u => exact ⟨_, x.1⟩
  | tbl ps => exact ⟨_, x⟩
  | met f x' => exact ⟨_, x⟩
  | ext φ => exact x.2.1
theorem HOk.none {P : Program} {w : World} {H : Hp} {h : Heap} {a : Addr} (x : HOk P w H h) (e : h.get? a = none) : H a = none := by
  cases q : H a with
  | none => rfl
  | some o =>
    obtain ⟨u, z⟩ := (x a o q).there
    rw [e] at z; cases z
/-- something laid, the frame's own object told by its map only -/
theorem Inv.laidL {a : Addr} {o : HO} (I : Inv X pins σ H s) (k : ∀ b u, b ≠ X.env.locals → s.heap.get? b = some u → h'.get? b = some u) (ns : ∀ m, s.heap.Ns X.env.locals m → h'.Ns X.env.locals m) (hp : s.heap.get? a = none) (new : ObjOk X.prog X.w (upd H a o) h' a o) :
    Inv X pins σ (upd H a o) { s with heap := h' } := by
  have hn := I.hok.none hp
  have nt : ∀ b u, H b = some u → b ≠ X.env.locals := fun b u e z => by rw [z, I.free] at e; cases e
  refine I.step (g' := s.gens) (t' := s.toks) (d' := s.drawn) (ch := []) (fun _ z => nomatch z) (fun b o h1 _ _ e _ => k b o h1 e) (fun b o h1 _ _ e _ => ⟨o.slots, k b o h1 e⟩) (fun b o _ e n => ?_) (fun b o _ e => ?_) (fun b xs e => ?_) (fun b o u e => ?_) (fun b ps e => ⟨#[], ?_⟩) ns ?_ I.bare
  · rw [upd_ne (fun z => by subst z; rw [hp] at e; cases e)]; exact n
  · by_cases z : b = X.env.locals
    · subst z
      obtain ⟨m, hm, _⟩ := I.loc
      obtain ⟨o', _, _, q, _⟩ := ns m hm
      exact ⟨o', q⟩
    · exact ⟨o, k b o z e⟩
  · rw [upd_ne (ne_of_none e hn)]; exact e
  · rw [upd_ne (ne_of_none e hn)]; exact e
  · rw [upd_ne (ne_of_none e hn)]; simpa using e
  · intro b u e
    by_cases hb : b = a
    · subst hb; rw [upd_same] at e; cases e; exact new
    · rw [upd_ne hb] at e
      refine (I.hok b u e).stay (fun c v hc q => k c v ?_ q) (fun c q => by rw [upd_ne (ne_of_none q hn)]; exact q) fun c xs q => by rw [upd_ne (ne_of_none q hn)]; exact q
      rcases hc with z | z
      · rw [z]; exact nt b _ e
      · exact nt c _ z
theorem Ns_same {h : Heap} {L : Addr} {m m' : Str → Option Value} (a : h.Ns L m) (b : h.Ns L m') : m = m' := by
  obtain ⟨o, es, ep, h1, h2, _, h3⟩ := a
  obtain ⟨o', es', ep', k1, k2, _, k3⟩ := b
  rw [h1] at k1; cases k1
  rw [h2] at k2; cases k2
  funext x
  rw [← h3 x, k3 x]
def ltIx (rows : List (List PyData)) (i j : Nat) : Bool := (ltRow (rows.getD i []) (rows.getD j [])).getD false
end
end L2

end

section
set_option Elab.async false
set_option linter.all false
set_option maxRecDepth 100000
set_option maxHeartbeats 4000000
namespace L2
open PySem PySem.Spec PyProof.Rows
/-! # sorted, as a mirror -/
def sortable (rows : List (List PyData)) : Bool := decide (2 ≤ rows.length) && decide (rows.length < 64) && rows.all (fun r => r.all SeqAt.shaped && onlyTs r) && (headI rows || headT rows) && (List.range rows.length).all fun i => (List.range rows.length).all fun j => (ltRow (rows.getD i []) (rows.getD j [])).isSome
theorem sortable_of {rows : List (List PyData)} (h : sortable rows = true) : 2 ≤ rows.length ∧ rows.length < 64 ∧ (∀ r ∈ rows, r.all SeqAt.shaped = true ∧ onlyTs r = true) ∧ (headI rows = true ∨ headT rows = true) ∧ (∀ i j, i < rows.length → j < rows.length → (ltRow (rows.getD i []) (rows.getD j [])).isSome = true) := by
  unfold sortable at h
  rw [Bool.and_eq_true, Bool.and_eq_true, Bool.and_eq_true, Bool.and_eq_true, Bool.or_eq_true] at h
  obtain ⟨⟨⟨⟨h1, h2⟩, h3⟩, h4⟩, h5⟩ := h
  refine ⟨of_decide_eq_true h1, of_decide_eq_true h2, fun r hr => ?_, h4, fun i j hi hj => ?_⟩
  · have := List.all_eq_true.mp h3 r hr
    rwa [Bool.and_eq_true] at this
  · exact List.all_eq_true.mp (List.all_eq_true.mp h5 i (List.mem_range.mpr hi)) j (List.mem_range.mpr hj)
section
variable {K : PySem.W.Frag}
theorem RepAll.len {H : Hp} : ∀ {ds : List PyData} {vs : List V}, RepAll K H ds vs → vs.length = ds.length
  | [], _, h => by
    have h : _ = [] := h
    rw [h]; rfl
  | d :: ds, _, h => by
    obtain ⟨v, r, rfl, _, h2⟩ := (show ∃ v r, _ = v :: r ∧ Rep K H d v ∧ RepAll K H ds r from h)
    simp [RepAll.len h2]
end
end L2

end

section
set_option Elab.async false
set_option linter.all false
set_option maxRecDepth 100000
set_option maxHeartbeats 4000000
namespace L2
open PySem PySem.Spec PyProof.Rows
section
variable {prog : Program} {w : World} {A : Around} {E : Value → Shared → Prop} {s : Shared}
end
/-! ### both lengths -/
end L2

end

section
set_option Elab.async false
set_option linter.all false
set_option maxRecDepth 100000
set_option maxHeartbeats 4000000
namespace L2
open PySem PySem.Spec PyProof.Rows
/-! # ltRow is an order where it answers -/
mutual
theorem eqvT : ∀ (x y : PyData), onlyT x = true → onlyT y = true → (PyData.eqv x y = true ↔ x = y)
  | .int a, .int b, _, _ => by rw [PyData.eqv.eq_def]; simp
  | .int a, .tuple b, _, _ => by rw [PyData.eqv.eq_def]; simp
  | .tuple a, .int b, _, _ => by rw [PyData.eqv.eq_def]; simp
  | .tuple xs, .tuple ys, h, k => by
    unfold onlyT at h k
    rw [PyData.eqv.eq_def]
    have := eqvTs xs ys h k
    simpa using this
  | .none, _, h, _ => by unfold onlyT at h; cases h
  | .bool _, _, h, _ => by unfold onlyT at h; cases h
  | .str _, _, h, _ => by unfold onlyT at h; cases h
  | .list _, _, h, _ => by unfold onlyT at h; cases h
  | .dict _, _, h, _ => by unfold onlyT at h; cases h
  | .int _, .none, _, h => by unfold onlyT at h; cases h
  | .int _, .bool _, _, h => by unfold onlyT at h; cases h
  | .int _, .str _, _, h => by unfold onlyT at h; cases h
  | .int _, .list _, _, h => by unfold onlyT at h; cases h
  | .int _, .dict _, _, h => by unfold onlyT at h; cases h
  | .tuple _, .none, _, h => by unfold onlyT at h; cases h
  | .tuple _, .bool _, _, h => by unfold onlyT at h; cases h
  | .tuple _, .str _, _, h => by unfold onlyT at h; cases h
  | .tuple _, .list _, _, h => by unfold onlyT at h; cases h
  | .tuple _, .dict _, _, h => by unfold onlyT at h; cases h
theorem eqvTs : ∀ (xs ys : List PyData), onlyTs xs = true → onlyTs ys = true → (PyData.eqvAll xs ys = true ↔ xs = ys)
  | [], [], _, _ => by rw [PyData.eqvAll.eq_def]; simp
  | [], _ :: _, _, _ => by rw [PyData.eqvAll.eq_def]; simp
  | _ :: _, [], _, _ => by rw [PyData.eqvAll.eq_def]; simp
  | x :: xs, y :: ys, h, k => by
    unfold onlyTs at h k
    rw [Bool.and_eq_true] at h k
    rw [PyData.eqvAll.eq_def]
    show (PyData.eqv x y && PyData.eqvAll xs ys) = true ↔ _
    rw [Bool.and_eq_true, eqvT x y h.1 k.1, eqvTs xs ys h.2 k.2, List.cons.injEq]
end
theorem lex_as : ∀ a b : List Int, HT.lexLt a b = true → HT.lexLt b a = false
  | [], [], h => by cases h
  | [], _ :: _, _ => rfl
  | _ :: _, [], h => by cases h
  | x :: xs, y :: ys, h => by
    rw [HT.lexLt_cons] at h ⊢
    by_cases e : x = y
    · rw [if_pos e] at h; rw [if_pos e.symm]; exact lex_as xs ys h
    · rw [if_neg e] at h; rw [if_neg (Ne.symm e)]
      have := of_decide_eq_true h
      exact decide_eq_false (by omega)
theorem lex_tr : ∀ a b c : List Int, HT.lexLt b a = false → HT.lexLt c b = false → HT.lexLt c a = false
  | [], _, [], _, _ => rfl
  | [], _, _ :: _, _, _ => rfl
  | x :: xs, [], _, h, _ => by cases h
  | x :: xs, y :: ys, [], _, h => by cases h
  | x :: xs, y :: ys, z :: zs, h, k => by
    rw [HT.lexLt_cons] at h k ⊢
    by_cases e : y = x
    · rw [if_pos e] at h
      by_cases e' : z = y
      · rw [if_pos e'] at k; rw [if_pos (e'.trans e)]; exact lex_tr xs ys zs h k
      · rw [if_neg e'] at k
        subst e
        rw [if_neg e']; exact k
    · rw [if_neg e] at h
      have h := of_decide_eq_false h
      by_cases e' : z = y
      · subst e'; rw [if_neg e]; exact decide_eq_false h
      · rw [if_neg e'] at k
        have k := of_decide_eq_false k
        rw [if_neg (by omega)]
        exact decide_eq_false (by omega)
theorem lex_eq : ∀ a b : List Int, HT.lexLt a b = false → HT.lexLt b a = false → a = b
  | [], [], _, _ => rfl
  | [], _ :: _, h, _ => by cases h
  | _ :: _, [], _, h => by cases h
  | x :: xs, y :: ys, h, k => by
    rw [HT.lexLt_cons] at h k
    by_cases e : x = y
    · rw [if_pos e] at h; rw [if_pos e.symm] at k; rw [e, lex_eq xs ys h k]
    · rw [if_neg e] at h; rw [if_neg (Ne.symm e)] at k
      have h := of_decide_eq_false h
      have k := of_decide_eq_false k
      omega
theorem intsD_inj : ∀ {xs ys : List PyData} {ns : List Int}, intsD xs = some ns → intsD ys = some ns → xs = ys := by
  have go : ∀ {xs : List PyData} {ns : List Int}, intsD xs = some ns → xs = ns.map .int := by
    intro xs
    induction xs with
    | nil => intro ns h; cases h; rfl
    | cons d ds ih =>
      intro ns h
      cases d with
      | int n =>
        have h : (intsD ds).bind (fun ns => some (n :: ns)) = some ns := h
        obtain ⟨ms, h1, h2⟩ := Option.bind_eq_some_iff.mp h
        cases h2
        rw [ih h1]; rfl
      | _ => cases h
  intro xs ys ns h k
  rw [go h, go k]
/-- what two things are that ltItem answers for -/
theorem ltItem_is {x y : PyData} {c : Bool} (h : ltItem x y = some c) : (∃ a b, x = .int a ∧ y = .int b ∧ c = decide (a < b)) ∨ ∃ xs ys ns ms, x = .tuple xs ∧ y = .tuple ys ∧ intsD xs = some ns ∧ intsD ys = some ms ∧ c = HT.lexLt ns ms := by
  unfold ltItem at h
  split at h
  · cases h; exact .inl ⟨_, _, rfl, rfl, rfl⟩
  · obtain ⟨ns, h1, h⟩ := Option.bind_eq_some_iff.mp h
    obtain ⟨ms, h2, h⟩ := Option.bind_eq_some_iff.mp h
    cases h
    exact .inr ⟨_, _, _, _, rfl, rfl, h1, h2, rfl⟩
  · cases h
theorem item_rev {x y : PyData} {c : Bool} (h : ltItem x y = some c) : ∃ d, ltItem y x = some d ∧ (c = true → d = false) ∧ (c = false → d = false → x = y) := by
  rcases ltItem_is h with ⟨a, b, rfl, rfl, rfl⟩ | ⟨xs, ys, ns, ms, rfl, rfl, h1, h2, rfl⟩
  · refine ⟨decide (b < a), rfl, fun z => decide_eq_false (by have := of_decide_eq_true z; omega), fun z z' => ?_⟩
    have z := of_decide_eq_false z
    have z' := of_decide_eq_false z'
    rw [show a = b by omega]
  · refine ⟨HT.lexLt ms ns, ?_, fun z => lex_as _ _ z, fun z z' => ?_⟩
    · show (intsD ys).bind _ = _
      rw [h2]
      show (intsD xs).bind _ = _
      rw [h1]; rfl
    · have := lex_eq _ _ z z'
      subst this
      rw [intsD_inj h1 h2]
theorem item_tr {x y z : PyData} (h : ltItem y x = some false) (k : ltItem z y = some false) : ltItem z x = some false := by
  rcases ltItem_is h with ⟨a, b, rfl, rfl, hh⟩ | ⟨xs, ys, ns, ms, rfl, rfl, h1, h2, hh⟩
  · rcases ltItem_is k with ⟨c, d, rfl, e, kk⟩ | ⟨_, _, _, _, _, e, _⟩
    · cases e
      have hh := of_decide_eq_false hh.symm
      have kk := of_decide_eq_false kk.symm
      show some (decide (c < b)) = some false
      rw [decide_eq_false (by omega)]
    · cases e
  · rcases ltItem_is k with ⟨c, d, rfl, e, kk⟩ | ⟨zs, ys', ns', ms', rfl, e, k1, k2, kk⟩
    · cases e
    · cases e
      rw [h1] at k2; cases k2
      have := lex_tr _ _ _ hh.symm kk.symm
      show (intsD zs).bind _ = _
      rw [k1]
      show (intsD ys).bind _ = _
      rw [h2]
      show some _ = some false
      rw [this]
theorem row_as : ∀ a b : List PyData, onlyTs a = true → onlyTs b = true → ltRow a b = some true → ltRow b a = some false
  | [], [], _, _, h => by cases h
  | [], _ :: _, _, _, _ => rfl
  | _ :: _, [], _, _, h => by cases h
  | x :: xs, y :: ys, p, q, h => by
    unfold onlyTs at p q
    rw [Bool.and_eq_true] at p q
    have h : (if PyData.eqv x y = true then ltRow xs ys else ltItem x y) = some true := h
    show (if PyData.eqv y x = true then ltRow ys xs else ltItem y x) = some false
    by_cases e : PyData.eqv x y = true
    · rw [if_pos e] at h
      have e' := (eqvT x y p.1 q.1).mp e
      rw [if_pos ((eqvT y x q.1 p.1).mpr e'.symm)]
      exact row_as xs ys p.2 q.2 h
    · rw [if_neg e] at h
      rw [if_neg fun z => e ((eqvT x y p.1 q.1).mpr ((eqvT y x q.1 p.1).mp z).symm)]
      obtain ⟨d, h1, h2, _⟩ := item_rev h
      rw [h1, h2 rfl]
theorem row_tr : ∀ a b c : List PyData, onlyTs a = true → onlyTs b = true → onlyTs c = true → ltRow b a = some false → ltRow c b = some false → ltRow c a = some false
  | [], _, [], _, _, _, _, _ => rfl
  | [], _, _ :: _, _, _, _, _, _ => rfl
  | x :: xs, [], _, _, _, _, h, _ => by cases h
  | x :: xs, y :: ys, [], _, _, _, _, h => by cases h
  | x :: xs, y :: ys, z :: zs, p, q, r, h, k => by
    unfold onlyTs at p q r
    rw [Bool.and_eq_true] at p q r
    have hA : (if PyData.eqv y x = true then ltRow ys xs else ltItem y x) = some false := h
    clear h
    have kA : (if PyData.eqv z y = true then ltRow zs ys else ltItem z y) = some false := k
    clear k
    show (if PyData.eqv z x = true then ltRow zs xs else ltItem z x) = some false
    by_cases e : PyData.eqv y x = true
    · rw [if_pos e] at hA
      have e1 := (eqvT y x q.1 p.1).mp e
      subst e1
      by_cases e' : PyData.eqv z y = true
      · rw [if_pos e'] at kA ⊢
        exact row_tr xs ys zs p.2 q.2 r.2 hA kA
      · rw [if_neg e'] at kA ⊢; exact kA
    · rw [if_neg e] at hA
      by_cases e' : PyData.eqv z y = true
      · have e1 := (eqvT z y r.1 q.1).mp e'
        subst e1
        rw [if_neg e]; exact hA
      · rw [if_neg e'] at kA
        have ez : ¬ PyData.eqv z x = true := fun w => by
          have w := (eqvT z x r.1 p.1).mp w
          subst w
          obtain ⟨d, h1, _, h3⟩ := item_rev hA
          rw [h1] at kA; cases kA
          exact e ((eqvT y z q.1 p.1).mpr (h3 rfl rfl))
        rw [if_neg ez]
        exact item_tr hA kA
/-- so sorted's way of comparing is an order -/
theorem ltIx_ord {rows : List (List PyData)} (h : sortable rows = true) : Ord2 (ltIx rows) := by
  obtain ⟨a1, a2, a3, a4, a5⟩ := sortable_of h
  have onl : ∀ i, onlyTs (rows.getD i []) = true := fun i => by
    rw [List.getD_eq_getElem?_getD]
    cases e : rows[i]? with
    | none => rfl
    | some r => exact (a3 r (List.mem_of_getElem? e)).2
  have out : ∀ i, ¬ i < rows.length → rows.getD i [] = [] := fun i hi => by
    rw [List.getD_eq_getElem?_getD, List.getElem?_eq_none (by omega)]; rfl
  have ans : ∀ i j, ∃ c, ltRow (rows.getD i []) (rows.getD j []) = some c := fun i j => by
    by_cases hi : i < rows.length
    · by_cases hj : j < rows.length
      · exact Option.isSome_iff_exists.mp (a5 i j hi hj)
      · rw [out j hj]
        cases rows.getD i [] with
        | nil => exact ⟨_, rfl⟩
        | cons _ _ => exact ⟨_, rfl⟩
    · rw [out i hi]; exact ⟨_, rfl⟩
  have is : ∀ i j c, ltIx rows i j = c → ltRow (rows.getD i []) (rows.getD j []) = some c := fun i j c e => by
    obtain ⟨d, hd⟩ := ans i j
    unfold ltIx at e
    rw [hd] at e ⊢
    exact congrArg some e
  have un : ∀ i j c, ltRow (rows.getD i []) (rows.getD j []) = some c → ltIx rows i j = c := fun i j c e => by
    unfold ltIx; rw [e]; rfl
  exact ⟨fun a b e => un _ _ _ (row_as _ _ (onl a) (onl b) (is _ _ _ e)), fun a b c e e' => un _ _ _ (row_tr _ _ _ (onl a) (onl b) (onl c) (is _ _ _ e) (is _ _ _ e'))⟩
/-- sorted's rows stand in order -/
theorem sortIx_sorted {rows : List (List PyData)} (h : sortable rows = true) : SortedT (ltIx rows) (kRun (ltIx rows) (PySem.W.kas_sort rows.length)) rows.length :=
  (KS.run (ks_sort (ltIx_ord h) (by have := (sortable_of h).1; omega))).2
end L2

end

section
set_option Elab.async false
set_option linter.all false
set_option maxRecDepth 100000
set_option maxHeartbeats 4000000
namespace L2
open PySem PySem.Spec PyProof.Rows
/-! # exceptions: how one lies on the heap while it flies -/
/-- the trace's state: none: it has none yet; some fl: its mark -/
def TrS (h B : Heap) (e : Addr) (vs : Array Value) : Option Value → Prop
  | none => vs[1]? = some .none
  | some fl => ∃ T oT ts, vs[1]? = some (.ref T) ∧ B.get? T = none ∧ T ≠ e ∧ h.get? T = some oT ∧ oT.data = .fields ts ∧ ts[3]? = some fl
def Tr (h B : Heap) (e : Addr) (c : Value) (dx : Option Addr) (st : Option Value) : Prop :=
  ∃ oe vs, h.get? e = some oe ∧ (oe.cls = c ∧ oe.dict = dx) ∧ oe.data = .fields vs ∧ 1 < vs.size ∧ TrS h B e vs st
structure Fly (B : Heap) (l : List Env) (e : Addr) (c : Value) (dx : Option Addr) (st : Option Value) (h : Heap) : Prop where
  stays : B.StaysIn h
  new : B.get? e = none
  frames : h.FunFrames B l
  tr : Tr h B e c dx st
theorem Fly.obj {B h : Heap} {l : List Env} {e : Addr} {c : Value} {dx : Option Addr} {st : Option Value} (F : Fly B l e c dx st h) : ∃ oe vs, h.get? e = some oe ∧ oe.cls = c ∧ oe.dict = dx ∧ oe.data = .fields vs := by
  obtain ⟨oe, vs, h1, h2, h3, _⟩ := F.tr
  exact ⟨oe, vs, h1, h2.1, h2.2, h3⟩
theorem dict_mf (o : Obj) (f : Array Value → Array Value) : (o.mapFields f).dict = o.dict := by
  obtain ⟨c, d, dt, sl⟩ := o
  cases dt <;> rfl
section
variable {M : Model} {A : Around} {E : Value → Shared → Prop} {s : Shared} {B : Heap} {env : Env} {outer l : List Env} {L e : Addr} {c : Value} {dx : Option Addr} {st : Option Value} {Q : Unit → Shared → Prop}
/-- an object of records is no other kind of object -/
theorem ne_rec {h : Heap} {a b : Addr} {o oa : Obj} {vs : Array Value} (ha : h.get? a = some oa) (hd : oa.data = .fields vs) (hb : h.get? b = some o) (hn : ∀ ws, o.data ≠ .fields ws) : b ≠ a := fun q => by
  subst q
  rw [ha] at hb
  cases hb
  exact hn vs hd
/-- the exception's first field, its trace, is set anew: an entry for this frame -/
theorem entry_wp {oe : Obj} {vs : Array Value} {hd : Value} {nx : Bool} (hfr : A.frames = some (env :: outer)) (hf : env.frame = some L) (stays : B.StaysIn s.heap) (new : B.get? e = none) (fr : s.heap.FunFrames B (env :: outer))
    (he : s.heap.get? e = some oe) (hk : oe.cls = c ∧ oe.dict = dx) (hv : oe.data = .fields vs) (hz : 1 < vs.size)
    (q : ∀ h', Fly B (env :: outer) e c dx (some (rawInt L)) h' → s.heap.UpToSlots h' → Q () { s with heap := h' }) :
    wpAny M A (do let a ← frameOf env; let pl ← entryPlaceOf L nx; let b ← EntryCells.newEntry hd a .none (rawInt L) .none pl; setField (.ref e) 1 b) Q E s := by
  have notF : e ∉ (env :: outer).filterMap (·.frame) := fun hm => by
    obtain ⟨_, o, ho, hnf⟩ := fr.mem hm
    exact ne_rec he hv ho hnf rfl
  refine wpAny_bind (wpAny_frameOf_fun hfr fr hf fun g1 so => wpAny_bind (wpAny_entryPlaceOf fun pl hpl => ?_))
  unfold EntryCells.newEntry newFields
  refine wpAny_bind (wpAny_newObj_type ?_ (hpl.sizeOk5 _ _ _ _ _))
  generalize hnw : ({ cls := .type "traceback", dict := none, data := .fields ([hd, Value.ref L, .none, rawInt L, .none] ++ (if pl.isEmpty then List.replicate 6 Value.none else pl)).toArray } : Obj) = nw
  have nwd : nw.data = .fields ([hd, Value.ref L, .none, rawInt L, .none] ++ (if pl.isEmpty then List.replicate 6 Value.none else pl)).toArray := by rw [← hnw]
  have e1 : g1.get? e = some oe := (so.2.1 e notF).trans he
  have st1 : B.StaysIn g1 := fun b o hb => (so.2.1 b fun hm => by rw [(fr.mem hm).1] at hb; cases hb).trans (stays b o hb)
  have e2 : (g1.push nw).get? e = some oe := Heap.get?_push_of_some nw e1
  refine wpAny_setField e2 hv hz (q _ ?_ ?_)
  all_goals
    have nTe : g1.objs.size ≠ e := Nat.ne_of_gt (Heap.lt_size e1)
    have e3 := Heap.get?_update_self (Obj.mapFields (·.setIfInBounds 1 (Value.ref g1.objs.size))) e2 (Obj.isFreed_of_fields (Obj.data_mapFields hv _))
    have kp : ∀ b o, b ≠ e → g1.get? b = some o → ((g1.push nw).update e (Obj.mapFields (·.setIfInBounds 1 (Value.ref g1.objs.size)))).get? b = some o := fun b o hbe hb => by
      rw [Heap.get?_update_other _ _ (Ne.symm hbe)]
      exact Heap.get?_push_of_some _ hb
  · refine ⟨fun b o hb => kp b o (fun z => by rw [z, new] at hb; cases hb) (st1 b o hb), new, fr.of_keeps fun b o hb hnf => ?_, ?_⟩
    · obtain ⟨sl, hs⟩ := so.2.2 b o hb
      exact ⟨_, kp b _ (ne_rec he hv hb hnf) hs, rfl⟩
    · refine ⟨_, _, e3, ⟨(Obj.cls_mapFields _ _).trans hk.1, (dict_mf _ _).trans hk.2⟩, Obj.data_mapFields hv _, by simpa using hz, g1.objs.size, nw, _, by simp [hz], st1.fresh, nTe, ?_, nwd, by simp⟩
      rw [Heap.get?_update_other _ _ (Ne.symm nTe)]
      exact Heap.get?_push_size g1 (by rw [← hnw]; rfl)
  · intro b o hb hnf
    obtain ⟨sl, hs⟩ := so.2.2 b o hb
    exact ⟨sl, kp b _ (ne_rec he hv hb hnf) hs⟩
/-- this frame is noted -/
theorem note_wp (hfr : A.frames = some (env :: outer)) (hf : env.frame = some L) (F : Fly B (env :: outer) e c dx st s.heap) (hst : st = none ∨ st = some .none ∨ st = some (rawInt L))
    (q : ∀ h', Fly B (env :: outer) e c dx (some (rawInt L)) h' → s.heap.UpToSlots h' → Q () { s with heap := h' }) : wpAny M A (noteFrame (.ref e) env) Q E s := by
  obtain ⟨oe, vs, he, hk, hv, hz, ht⟩ := id F.tr
  unfold noteFrame
  simp only [hf]
  rcases hst with rfl | rfl | rfl
  · refine wpAny_bind (wpAny_field he hv (show vs[1]? = some .none from ht) ?_)
    rw [if_neg (by decide)]
    exact entry_wp hfr hf F.stays F.new F.frames he hk hv hz q
  · obtain ⟨T, oT, ts, t1, t2, t3, t4, t5, t6⟩ := ht
    refine wpAny_bind (wpAny_field he hv t1 ?_)
    rw [if_pos (show (Value.ref T != Value.none) = true from by simp)]
    refine wpAny_bind (wpAny_field t4 t5 t6 ?_)
    rw [if_neg (show ¬ ((Value.none == rawInt L) = true) from by simp [rawInt])]
    refine wpAny_bind (wpAny_setField t4 t5 (Array.getElem?_eq_some_iff.mp t6).1 ?_)
    have oth : ∀ b, b ≠ T → (s.heap.update T (Obj.mapFields (·.setIfInBounds 3 Value.none))).get? b = s.heap.get? b := fun b hb => Heap.get?_update_other _ _ (Ne.symm hb)
    refine entry_wp (s := { s with heap := s.heap.update T (Obj.mapFields (·.setIfInBounds 3 Value.none)) }) hfr hf (fun b o hb => (oth b fun z => by rw [z, t2] at hb; cases hb).trans (F.stays b o hb)) F.new
      (F.frames.of_keeps fun b o hb hnf => ⟨o, (oth b (ne_rec t4 t5 hb hnf)).trans hb, rfl⟩) ((oth e (Ne.symm t3)).trans he) hk hv hz fun h' F' u => q h' F' fun b o hb hnf => u b o ((oth b (ne_rec t4 t5 hb hnf)).trans hb) hnf
  · obtain ⟨T, oT, ts, t1, t2, t3, t4, t5, t6⟩ := ht
    refine wpAny_bind (wpAny_field he hv t1 ?_)
    rw [if_pos (show (Value.ref T != Value.none) = true from by simp)]
    refine wpAny_bind (wpAny_field t4 t5 t6 ?_)
    rw [if_pos (show (rawInt L == rawInt L) = true from by simp)]
    exact wpAny_pure (q _ F (.refl _))
/-- the mark is set -/
theorem mark_wp {fl : Value} {fo : Option Addr} (F : Fly B l e c dx (some fl) s.heap)
    (q : ∀ h', Fly B l e c dx (some (fo.elim .none fun f => rawInt f)) h' → s.heap.UpToSlots h' → Q () { s with heap := h' }) : wpAny M A (setFlight (.ref e) fo) Q E s := by
  obtain ⟨oe, vs, he, hk, hv, hz, T, oT, ts, t1, t2, t3, t4, t5, t6⟩ := id F.tr
  have z3 : 3 < ts.size := (Array.getElem?_eq_some_iff.mp t6).1
  unfold setFlight
  refine wpAny_bind (wpAny_field he hv t1 ?_)
  rw [if_pos (show (Value.ref T != Value.none) = true from by simp)]
  have oth : ∀ b, b ≠ T → (s.heap.update T (Obj.mapFields (·.setIfInBounds 3 (fo.elim .none fun f => rawInt f)))).get? b = s.heap.get? b := fun b hb => Heap.get?_update_other _ _ (Ne.symm hb)
  refine wpAny_setField t4 t5 z3 (q _ ⟨fun b o hb => (oth b fun z => by rw [z, t2] at hb; cases hb).trans (F.stays b o hb), F.new, F.frames.of_keeps fun b o hb hnf => ⟨o, (oth b (ne_rec t4 t5 hb hnf)).trans hb, rfl⟩,
    oe, vs, (oth e (Ne.symm t3)).trans he, hk, hv, hz, T, _, _, t1, t2, t3, Heap.get?_update_self _ t4 (Obj.isFreed_of_fields (Obj.data_mapFields t5 _)), Obj.data_mapFields t5 _, by simp [z3]⟩
    fun b o hb hnf => ⟨o.slots, (oth b (ne_rec t4 t5 hb hnf)).trans hb⟩)
/-- it comes back from a loop's own run -/
theorem back_wp {X : Value → Shared → Prop} (hfr : A.frames = some (env :: outer)) (hf : env.frame = some L) (F : Fly B (env :: outer) e c dx st s.heap) (hst : st = none ∨ st = some .none ∨ st = some (rawInt L))
    (q : ∀ h', Fly B (env :: outer) e c dx (some (rawInt L)) h' → s.heap.UpToSlots h' → X (.ref e) { s with heap := h' }) : notedBy M A env (cameBackBy M A env X) (.ref e) s := by
  unfold notedBy
  refine note_wp hfr hf F hst fun h1 F1 u1 => ?_
  unfold cameBackBy
  obtain ⟨oe, vs, he, hk, hv, hz, T, oT, ts, t1, t2, t3, t4, t5, t6⟩ := id F1.tr
  refine wpAny_bind (wpAny_field he hv t1 ?_)
  rw [if_neg (show ¬ ((Value.ref T == Value.none) = true) from by simp), hf]
  exact mark_wp (s := { s with heap := h1 }) (fo := some L) F1 fun h2 F2 u2 => q h2 F2 (u1.trans u2)
end
end L2

end

section
set_option Elab.async false
set_option linter.all false
set_option maxRecDepth 100000
set_option maxHeartbeats 4000000
namespace L2
open PySem PySem.Spec PyProof.Rows
/-! # exceptions in a def's body -/
/-- a def's own context -/
structure Body (X : Cx) : Prop where
  stk : X.stack = X.env :: X.outer
  fr : X.env.frame = some X.env.locals
  ex : X.ex = []
/-- what stays while an exception flies: all that is tracked, all that was there at the entry but the frames -/
structure Kp (X : Cx) (H : Hp) (B h : Heap) : Prop where
  trk : ∀ b u o, H b = some u → h.get? b = some o → B.get? b = some o
  ent : ∀ b o, X.s₀.heap.get? b = some o → b ∉ X.fs → (∃ o', B.get? b = some o') ∧ (X.H₀ b = none → B.get? b = some o)
  pin : ∀ p ∈ X.pn, B.get? p.1 = some p.2
section
variable {X : Cx} {pins : List (Addr × Obj)} {σ : St} {H : Hp} {s : Shared} {B h' : Heap}
theorem Inv.up (I : Inv X [] σ H s) (b : Body X) (k : Kp X H B s.heap) (stays : B.StaysIn h') (u : s.heap.UpToSlots h') : Inv X [] σ H { s with heap := h' } ∧ Kp X H B h' := by
  have tr : ∀ a v o, H a = some v → s.heap.get? a = some o → h'.get? a = some o := fun a v o e q => stays a o (k.trk a v o e q)
  have cell : ∀ c v, s.heap.IsCell c v → h'.IsCell c v := fun c v ⟨o, ho, hd⟩ => by
    obtain ⟨sl, q⟩ := u c o ho fun vs z => by rw [hd] at z; cases z
    exact ⟨_, q, hd⟩
  have frm : ∀ a ∈ X.fs, ∀ o, s.heap.get? a = some o → ∃ sl, h'.get? a = some { o with slots := sl } := fun a ha o e => by
    obtain ⟨_, o1, h1, hn⟩ := I.funs.mem ha
    rw [e] at h1
    cases h1
    exact u a o e hn
  refine ⟨⟨I.ok, I.os, I.bare, ⟨fun a o e n ha hx => ?_, fun a o e n ha hx => ?_, I.base.free, fun a o e hx => ?_, I.base.tups, I.base.frzs, I.base.tbls⟩, ?_, fun x c e => ?_, I.free, I.freeC, fun p hp => ?_, fun a v e => ?_, I.len⟩, ⟨fun a v o e q => ?_, k.ent, k.pin⟩⟩
  · exact stays a o ((k.ent a o e ha).2 n)
  · obtain ⟨sl, e1⟩ := I.base.slot a o e n ha hx
    obtain ⟨sl', e2⟩ := frm a ha _ e1
    exact ⟨sl', e2⟩
  · by_cases ha : a ∈ X.fs
    · obtain ⟨o1, e1⟩ := I.base.there a o e hx
      obtain ⟨sl, e2⟩ := frm a ha o1 e1
      exact ⟨_, e2⟩
    · obtain ⟨⟨o', q⟩, _⟩ := k.ent a o e ha
      exact ⟨o', stays a o' q⟩
  · obtain ⟨m, hn, hl⟩ := I.loc
    refine ⟨m, u.ns hn, fun i x v e1 e2 e3 => ?_⟩
    obtain ⟨uu, r, l⟩ := hl i x v e1 e2 e3
    refine ⟨uu, r, ?_⟩
    rcases l with l | ⟨kk, c, e, z⟩
    · exact .inl l
    · exact .inr ⟨kk, c, e, cell c _ z⟩
  · obtain ⟨v, z⟩ := I.cell x c e
    exact ⟨v, cell c v z⟩
  · rw [List.append_nil] at hp
    obtain ⟨_, n, ne, nf, d⟩ := I.pin p (List.mem_append_left _ hp)
    exact ⟨stays _ _ (k.pin p hp), n, ne, nf, d⟩
  · exact (I.hok a v e).stay (fun c w hc q => by
      rcases hc with rfl | hc
      · exact tr c v w e q
      · exact tr c _ w hc q) (fun _ q => q) fun _ _ q => q
  · obtain ⟨o1, q1⟩ := (I.hok a v e).there
    have := tr a v o1 e q1
    rw [q] at this
    cases this
    exact k.trk a v o e q1
/-- the exception in this frame; what is wanted of it, by the names' values -/
def XS (X : Cx) (EE : St → XK) (ev : Value) (s : Shared) : Prop :=
  ∃ e c dx st σ H B, ev = .ref e ∧ Inv X [] σ H s ∧ Kp X H B s.heap ∧ Fly B X.stack e c dx st s.heap ∧ (st = none ∨ st = some .none ∨ st = some (rawInt X.env.locals)) ∧ EE σ c dx H
theorem XS.unwish {EE : St → XK} {E : Value → Shared → Prop} {ev : Value} (h : XS (X.wish E) EE ev s) : XS X EE ev s := by
  obtain ⟨e, c, dx, st, σ, H, B, h1, I, k, F, hst, q⟩ := h
  exact ⟨e, c, dx, st, σ, H, B, h1, I.unwish, ⟨k.trk, k.ent, k.pin⟩, F, hst, q⟩
theorem XS.mono {EE EE' : St → XK} {ev : Value} (h : XS X EE ev s) (k : ∀ σ c dx H, EE σ c dx H → EE' σ c dx H) : XS X EE' ev s := by
  obtain ⟨e, c, dx, st, σ, H, B, h1, I, kk, F, hst, q⟩ := h
  exact ⟨e, c, dx, st, σ, H, B, h1, I, kk, F, hst, k _ _ _ _ q⟩
/-- how an exception lies behind a call -/
def CX1 (P : Program) (w : World) : CXT := fun outer H s E ev s' => ∃ e c dx H' B, ev = .ref e ∧ s'.os = s.os ∧ AllBare s'.gens ∧ Un (frs outer) [] H H' s.heap s'.heap ∧ HOk P w H' s'.heap ∧ Fly B outer e c dx (some .none) s'.heap ∧
  (∀ b u o, H' b = some u → s'.heap.get? b = some o → B.get? b = some o) ∧ (∀ b o, s.heap.get? b = some o → b ∉ frs outer → (∃ o', B.get? b = some o') ∧ (H b = none → B.get? b = some o)) ∧ E c dx H'
theorem Inv.entry (I : Inv X pins σ H s) (bd : Body X) {b : Addr} {o : Obj} (e : X.s₀.heap.get? b = some o) (hb : b ∉ X.fs) : b ∉ frs X.stack ∧ (∃ o1, s.heap.get? b = some o1) ∧ (X.H₀ b = none → s.heap.get? b = some o ∧ H b = none) := by
  have nx : b ∉ X.ex := by rw [bd.ex]; simp
  refine ⟨fun z => ?_, I.base.there b o e nx, fun n => ⟨I.base.keep b o e n hb nx, I.base.free b o e n nx⟩⟩
  rcases List.mem_cons.mp (I.stkSub b z) with q | q
  · exact absurd (q ▸ Nat.lt_of_lt_of_le (Heap.lt_size e) I.ok.above) (Nat.lt_irrefl _)
  · exact hb q
/-- it passes the loops of its frame -/
theorem passes_X {EE : St → XK} (bd : Body X) : PassesOwn (model X.prog X.w) X.A X.env (XS X EE) := by
  rintro ev s ⟨e, c, dx, st, σ, H, B, rfl, I, k, F, hst, q⟩
  have hf := I.ok.frames
  rw [bd.stk] at hf F
  refine back_wp hf bd.fr F hst fun h' F' u => ?_
  obtain ⟨I', k'⟩ := I.up bd k F'.stays u
  exact ⟨e, c, dx, _, σ, H, B, rfl, I', k', by rw [bd.stk]; exact F', .inr (.inr rfl), q⟩
end
section
variable {P : Program} {w : World} {K : PySem.W.Frag} {mg : Str → Option Value} {base : Heap} {N : List Str} {qual : Str} {scope : Scope} {f : Addr} {cd : Value} {A : Around} {outer : List Env} {s : Shared} {H : Hp} {E : XK} {CX : CXT}
theorem Body.wish {X : Cx} (b : Body X) (E : Value → Shared → Prop) : Body (X.wish E) := ⟨b.stk, b.fr, b.ex⟩
end
end L2

end

section
set_option Elab.async false
set_option linter.all false
set_option maxRecDepth 100000
set_option maxHeartbeats 4000000
namespace L2
open PySem PySem.Spec PyProof.Rows
/-! # an exception's attributes, its class asked -/
/-- what of the text an exception's class must have -/
structure XCls (K : PySem.W.Frag) (C : Addr) : Prop where
  ga : PySem.W.findIn K (.ref C) "__getattribute__" = some (some (.builtin "BaseException.__getattribute__"))
  gh : PySem.W.findIn K (.ref C) "__getattr__" = some none
  be : PySem.W.subIn K (.ref C) (.type "BaseException") = some true
  cl : (PySem.W.clsIn K C).isSome = true
section
variable {prog : Program} {w : World} {A : Around} {E : Value → Shared → Prop} {s : Shared} {K : PySem.W.Frag} {x C : Addr} {ox : Obj} {od : Option Obj} {name : Str}
theorem bexc_ga_call {tk : Tok} {Q : Value → Shared → Prop} (X : K.In s.heap) (I : PySem.W.InstAt s.heap x ox C od) (c : XCls K C)
    (h : wpAny (model prog w) A.in1 (Builtin.«object.__getattribute__» ⟨[.ref x, .str name tk], []⟩)
      (fun fin s' => match fin with | .done (.ret v) => Q v s' | .done _ => False | .again c' => c'.quiet = true ∧ codeAny (model prog w) A c' (fun r s' => match r with | .ok (.ret v) => Q v s' | .ok _ => False | .error e => E e s') s') E s) :
    wpAny (model prog w) A (call (.builtin "BaseException.__getattribute__") [.ref x, .str name tk]) Q E s := by
  have hb := F.entry_bexc_ga
  generalize Builtin.«object.__getattribute__» = b at hb h
  refine wpAny_call (codeAny_call_builtin F.excAttr_ValueError.ga.plain hb ?_)
  have hk : builtinKind "BaseException.__getattribute__" = some .slot := by decide +kernel
  have hsplit : splitId "BaseException.__getattribute__" = some ("BaseException", "__getattribute__") := by decide +kernel
  have ha := F.args_bexc_ga (.ref x) (.str name tk)
  have L0 := I.type (M := model prog w)
  have L1 := PySem.W.looks_subIn (M := model prog w) X c.be
  obtain ⟨hh, g, d, t, os⟩ := s
  simp only [checkBuiltinCall, hk, hsplit]
  refine wpAny_bind ?_
  unfold isInstance
  refine wpAny_bind (L0.at (L1.at ?_))
  repeat (first | assumption | wp_step)
  refine wpAny_mono h (fun fin s' z => ?_) fun _ _ z => z
  rcases fin with (_ | _ | _ | _) | c'
  · exact z
  · exact z
  · exact z
  · exact z
  · exact ⟨z.1, codeAny_mono z.2 fun r s' q => by cases r with
      | error e => exact q
      | ok f => cases f <;> exact q⟩
/-- getAttrBy of an exception -/
theorem exc_getBy {tk : Tok} {fill ex : Bool} {Q : Value → Shared → Prop} (X : K.In s.heap) (I : PySem.W.InstAt s.heap x ox C od) (c : XCls K C)
    (h : wpAny (model prog w) A.in1 (Builtin.«object.__getattribute__» ⟨[.ref x, .str name tk], []⟩)
      (fun fin s' => match fin with | .done (.ret v) => wpAny (model prog w) A (handedOut v) Q E s' | .done _ => False | .again c' => c'.quiet = true ∧ codeAny (model prog w) A c' (fun r s' => match r with | .ok (.ret v) => wpAny (model prog w) A (handedOut v) Q E s' | _ => False) s') (fun _ _ => False) s) :
    wpAny (model prog w) A (getAttrBy (.ref x) (.str name tk) fill ex) Q E s := by
  have L0 := I.type (M := model prog w)
  have L1 := PySem.W.looks_findIn (M := model prog w) X c.ga
  have L2 := PySem.W.looks_findIn (M := model prog w) X c.gh
  unfold getAttrBy
  refine wpAny_holding (wpAny_bind (L0.here (wpAny_bind (L1.here ?_))))
  have hx2 : (Value.builtin "BaseException.__getattribute__" == Value.builtin "object.__getattribute__") = false := by decide +kernel
  have hx1 : (onTheHeap (Value.ref C) && Value.builtin "BaseException.__getattribute__" == Value.builtin "object.__getattribute__") = false := by rw [hx2]; rfl
  dsimp only
  rw [hx1, if_neg Bool.false_ne_true]
  unfold getAttrByItsOwn hookBefore
  rw [if_pos (show onTheHeap (Value.ref C) = true from rfl)]
  refine wpAny_bind (L2.here (wpAny_bind (wpAny_attempt (wpAny_holding ?_))))
  unfold callGetattribute
  rw [if_neg (show ¬ ((ex && onTheHeap (Value.builtin "BaseException.__getattribute__")) = true) from by cases ex <;> exact Bool.false_ne_true)]
  unfold boundAndCalled
  rw [F.excAttr_ValueError.ga.bind (.ref x)]
  refine wpAny_bind (wpAny_pure ?_)
  refine wpAny_mono (bexc_ga_call (tk := tk) (name := name) (E := fun _ _ => False) (Q := fun v s' => wpAny (model prog w) A (handedOut v) Q E s') X I c ?_) (fun v s' z => z) fun _ _ z => z.elim
  refine wpAny_mono h (fun fin s' z => ?_) fun _ _ z => z
  rcases fin with (_ | _ | _ | _) | c'
  · exact z
  · exact z
  · exact z
  · exact z
  · exact ⟨z.1, codeAny_mono z.2 fun r s' q => by cases r with
      | error e => exact q
      | ok f => cases f <;> exact q⟩
/-- an attribute of its own dict -/
theorem exc_get {ex : Bool} {v : Value} {Q : Value → Shared → Prop} (X : K.In s.heap) (I : PySem.W.InstAt s.heap x ox C od) (c : XCls K C) (hf : PySem.W.findObj K C od name = some (.value v)) (hh : PySem.W.handedIn v = true) (h : Q v { s with toks := s.toks + 1 }) :
    wpAny (model prog w) A (getAttr (.ref x) name ex) Q E s := by
  unfold getAttr
  refine wpAny_bind (wpAny_mkText (exc_getBy (s := { s with toks := s.toks + 1 }) X I c ?_))
  obtain ⟨h0, g, d, t, os⟩ := s
  have L0 := I.type (M := model prog w)
  have L1 := PySem.W.looks_find (M := model prog w) X I hf
  refine wpAny_bind (wpAny_pure (wpAny_bind (wpAny_pure (wpAny_bind (L0.at (wpAny_bind (L1.at ?_)))))))
  refine wpAny_pure ?_
  show wpAny _ _ (handedOut v) _ _ _
  rw [PySem.W.handedOut_of hh]
  exact wpAny_pure h
/-- its class -/
theorem exc_class {Q : Option Value → Shared → Prop} (X : K.In s.heap) (I : PySem.W.InstAt s.heap x ox C od) (c : XCls K C) (ha : PySem.W.findIn K (.ref C) "__class__" = some (some (.builtin "object.__class__")))
    (hn : PySem.W.specialIn K (.builtin "object.__class__") "__get__" = some (some (.builtin "getset_descriptor.__get__"))) (htk : PySem.W.takesIn K (.builtin "object.__class__") = some true) (hm : PySem.W.mroIn K C (.type "object") = some true)
    (h : Q (some (.ref C)) { s with toks := s.toks + 1 }) : wpAny (model prog w) A (getAttr? (.ref x) "__class__") Q E s := by
  have hf : PySem.W.findObj K C od "__class__" = some (.bind (.builtin "getset_descriptor.__get__") (.builtin "object.__class__")) := by
    obtain ⟨cd, hc⟩ := Option.isSome_iff_exists.mp c.cl
    unfold PySem.W.findObj
    rw [hc, Option.bind_some, ha, Option.bind_some]
    simp [hn, htk]
  unfold getAttr? getAttrBy?
  refine wpAny_bind (wpAny_mkText (wpAny_bind (wpAny_attempt (exc_getBy (s := { s with toks := s.toks + 1 }) X I c ?_))))
  obtain ⟨h0, g, d, t, os⟩ := s
  have L0 := I.type (M := model prog w)
  have L1 := PySem.W.looks_find (M := model prog w) X I hf
  refine wpAny_bind (wpAny_pure (wpAny_bind (wpAny_pure (wpAny_bind (L0.at (wpAny_bind (L1.at ?_)))))))
  show wpAny _ _ (Builtin.ObjectAttr.bindTo (.builtin "getset_descriptor.__get__") (.builtin "object.__class__") (.ref x) (.ref C)) _ _ _
  unfold Builtin.ObjectAttr.bindTo
  refine wpAny_bind (wpAny_holding (wpAny_call (PySem.W.class_get (ox := ox) (od := od) X I hm ?_)))
  refine wpAny_pure ?_
  show wpAny _ _ (handedOut (.ref C)) _ _ _
  exact wpAny_pure (wpAny_pure h)
theorem kitx_exc (c : XCls K C) (ha : PySem.W.findIn K (.ref C) "__class__" = some (some (.builtin "object.__class__")))
    (hn : PySem.W.specialIn K (.builtin "object.__class__") "__get__" = some (some (.builtin "getset_descriptor.__get__"))) (htk : PySem.W.takesIn K (.builtin "object.__class__") = some true) (hm : PySem.W.mroIn K C (.type "object") = some true) :
    PySem.W.KitX K (.ref x) (.ref C) (fun h => ∃ ox od, PySem.W.InstAt h x ox C od) where
  ty := fun _ _ _ ⟨_, _, I⟩ => I.type
  it := fun _ _ X _ => by
    have hc := c.cl
    unfold PySem.W.clsIn at hc
    split at hc
    · rename_i c' d' cd' sl' ho
      intro A' Q' E' s' k q
      unfold isType loadHead
      exact wpAny_bind (wpAny_loadPart (k _ _ (X _ _ ho)) (wpAny_pure q))
    · cases hc
  ne := fun h tp dd its n sl X htp => by
    have hc := c.cl
    refine Bool.eq_false_iff.mpr fun q => ?_
    have e : C = tp := Value.ref.inj (beq_iff_eq.mp q)
    subst e
    unfold PySem.W.clsIn at hc
    split at hc
    · rename_i c' d' cd' sl' ho
      have z := (X _ _ ho).symm.trans htp
      cases z
    · cases hc
  ca := fun X ⟨_, _, I⟩ k => exc_class X I c ha hn htk hm k
end
end L2

end

section
set_option Elab.async false
set_option linter.all false
set_option maxRecDepth 100000
set_option maxHeartbeats 4000000
namespace L2
open PySem PySem.Spec PyProof.Rows
/-! # calls that may raise, raise, try -/
section
variable {X : Cx} {pins : List (Addr × Obj)} {σ : St} {H : Hp} {s : Shared}
structure CalleeX (P : Program) (w : World) (K : PySem.W.Frag) (mg : Str → Option Value) (base : Heap) (k : Nat) (x : Str) (ps : List Str) (sp : Sp) : Prop where
  ex : ∃ f fd, FnOk P w K mg base (CX1 P w) k f fd ps sp ∧ mg x = some (.ref f) ∧ PySem.W.keepIn K (.ref f) = true ∧ Binds K fd ps []
theorem CalleeX.mono {P : Program} {w : World} {K : PySem.W.Frag} {mg : Str → Option Value} {base : Heap} {j k : Nat} {x : Str} {ps : List Str} {sp : Sp} (C : CalleeX P w K mg base j x ps sp) (h : j ≤ k) : CalleeX P w K mg base k x ps sp := by
  obtain ⟨f, fd, F, r⟩ := C.ex
  exact ⟨f, fd, F.mono h, r⟩
/-- the context's wish about exceptions is met by EE -/
structure XOk (X : Cx) (EE : St → XK) : Prop where
  bd : Body X
  pass : ∀ ev s, XS X EE ev s → X.xe ev s
  own : PassesOwn (model X.prog X.w) X.A X.env X.xe
theorem XOk.of {X : Cx} (bd : Body X) (EE : St → XK) : XOk (X.wish (XS X EE)) EE := ⟨bd.wish _, fun _ _ h => h.unwish, passes_X bd⟩

/-! ### raise C() -/
abbrev bmV : List Value := [.type "ValueError", .type "Exception", .type "BaseException", .type "object"]
theorem exc_own {K : PySem.W.Frag} {h : Heap} {C : Addr} {bmB : List Value} {nid : String} (X : K.In h) (q : PySem.W.excIn K C bmB nid = true) :
    ∃ bm N nm qn bs hd sn sub ab col dd k0 k1 k2 k3 k5 mN, h.get? C = some (excClassObj nm qn C N bs bm hd sn sub ab col dd k0 k1 k2 k3 k5 nid) ∧ h.Ns N mN ∧ mN "__init__" = none ∧ OwnTail h bmB bm := by
  unfold PySem.W.excIn at q
  split at q
  case h_2 => cases q
  case h_1 dd cd sl lk =>
    split at q
    case h_2 => cases q
    case h_1 C' bm k0 k1 k2 k3 n k5 hm hs =>
      simp only [Bool.and_eq_true, beq_iff_eq, Bool.not_eq_true'] at q
      obtain ⟨⟨⟨⟨⟨q1, q2⟩, q3⟩, q4⟩, q5⟩, q6⟩ := q
      subst q1 q2
      cases cd with
      | mk nm bs mro ns qn hd sn sub ab col del =>
        cases hm
        cases q3
        have es : sl = #[k0, k1, k2, k3, some (.builtin n), k5] := by
          cases sl with
          | mk l => exact congrArg Array.mk hs
        cases es
        exact ⟨bm, ns, nm, qn, bs, hd, sn, sub, ab, col, dd, k0, k1, k2, k3, k5, _, X _ _ lk, .of_isNs (PySem.W.isNs_of_in X q5), PySem.W.nsMap_none_of_in X q5 q6, PySem.W.tail_of_in X q4⟩
end

/-! ### try -/
def pnCx (X : Cx) (pins : List (Addr × Obj)) : Cx := { X with pn := X.pn ++ pins }
section
variable {X : Cx} {pins : List (Addr × Obj)} {σ : St} {H : Hp} {s : Shared}
/-- a handler: the class, the name's place, the suite -/
structure HR where
  c : Value
  n : Option Nat
  t : TS
def unbN : Option Nat → St → St
  | none, σ => σ
  | some i, σ => σ.set i none
def setN : Option Nat → St → V → St
  | none, σ, _ => σ
  | some i, σ, v => σ.set i (some v)
def endsU (D : Ends) (n : Option Nat) : Ends := { nx := fun σ H => D.nx (unbN n σ) H, rt := D.rt, bk := fun σ H => D.bk (unbN n σ) H, ct := fun σ H => D.ct (unbN n σ) H }
def tHs (K : PySem.W.Frag) (D : Ends) : List HR → St → XK
  | [], _, _, _, _ => False
  | h :: r, σ, c, dx, H => ∃ b, PySem.W.exmOne K c h.c = some b ∧ (if b = true then ∀ e, H e = none → h.t (endsU D h.n) (setN h.n σ (.ref e)) (upd H e (.ext (ExcO e c dx false))) else tHs K D r σ c dx H)
def HsOk (X : Cx) (hs : List ExceptHandler) (rs : List HR) : Prop := ∀ (pins : List (Addr × Obj)) (D : Ends) (e : Addr) (c : Value) (dx : Option Addr) (σ : St) (H : Hp) (s : Shared) (B : Heap) (E : Value → Shared → Prop), X.Ok → Inv (pnCx X pins) [] σ H s → Kp (pnCx X pins) H B s.heap →
  Fly B X.stack e c dx (some .none) s.heap → tHs X.K D rs σ c dx H → wpAny (model X.prog X.w) X.A (handleBy (.ref e) X.env hs) (SP X pins D) E s
theorem Fly.fresh {B h : Heap} {e : Addr} {c : Value} {dx st : _} (bd : Body X) (I : Inv X pins σ H s) (k : Kp X H B s.heap) (F : Fly B X.stack e c dx st s.heap) : H e = none ∧ X.s₀.heap.get? e = none ∧ ∀ p ∈ X.pn, p.1 ≠ e := by
  obtain ⟨oe, vs, he, _, _, hv⟩ := F.obj
  refine ⟨?_, ?_, fun p hp z => ?_⟩
  · cases z : H e with
    | none => rfl
    | some u =>
      have := k.trk e u oe z he
      rw [F.new] at this
      cases this
  · cases z : X.s₀.heap.get? e with
    | none => rfl
    | some o =>
      by_cases hf : e ∈ X.fs
      · obtain ⟨_, o1, z1, hn⟩ := I.funs.mem hf
        exact absurd rfl (ne_rec he hv z1 hn)
      · obtain ⟨⟨o', q⟩, _⟩ := k.ent e o z hf
        rw [F.new] at q
        cases q
  · have := k.pin p hp
    rw [z, F.new] at this
    cases this
end
end L2

end

section
set_option Elab.async false
set_option linter.all false
set_option maxRecDepth 100000
set_option maxHeartbeats 4000000
namespace L2
open PySem PySem.Spec PyProof.Rows
/-! # mirrors that may raise -/
structure Exc where
  nm : Str
  fs : List (Str × CD)
inductive Rs where
  | v (x : CD) | x (e : Exc)
inductive OutX where
  | o (o : Out) | xc (γ : Ga) (e : Exc)
abbrev EX := Ga → Sto → Option (Rs × Sto)
abbrev AX := Ga → Sto → Option ((List CD ⊕ Exc) × Sto)
abbrev SFX := Ga → Sto → Option (OutX × Sto)
abbrev FX := List CD → Sto → Option (Rs × Sto)
section
variable (K : PySem.W.Frag)
def ExR (W : Wd) (ex : Exc) (c : Value) (dx : Option Addr) : Prop := c = .ref (clOf K ex.nm) ∧ RepX K W dx ex.fs
def ResOk (E : XK) (Q : VK) (W : Wd) (H : Hp) : Rs → Prop
  | .v x => ∀ v, RepV K W x v → Q v H
  | .x ex => ∀ c dx, ExR K W ex c dx → E c dx H
def SEX (EE : St → XK) (t : TE) (f : EX) : Prop := ∀ γ M r M', f γ M = some (r, M') → ∀ (W : Wd) (H : Hp) (σ : St) (Q : VK), Good K W M H → RepS K W γ σ → (∀ W' H', W.Ext W' → Good K W' M' H' → ResOk K (EE σ) Q W' H' r) → t σ H Q
def ArgOk (E : XK) (Q : List V → Hp → Prop) (W : Wd) (H : Hp) : List CD ⊕ Exc → Prop
  | .inl xs => ∀ vs, RepVs K W xs vs → Q vs H
  | .inr ex => ∀ c dx, ExR K W ex c dx → E c dx H
def SAX (EE : St → XK) (t : TA) (f : AX) : Prop := ∀ γ M r M', f γ M = some (r, M') → ∀ (W : Wd) (H : Hp) (σ : St) (Q : List V → Hp → Prop), Good K W M H → RepS K W γ σ → (∀ W' H', W.Ext W' → Good K W' M' H' → ArgOk K (EE σ) Q W' H' r) → t σ H Q
def OutOkX (EE : St → XK) (D : Ends) (W : Wd) (H : Hp) : OutX → Prop
  | .o o => OutOk K D W H o
  | .xc γ ex => ∀ σ c dx, RepS K W γ σ → ExR K W ex c dx → EE σ c dx H
def SSX (EE : St → XK) (t : TS) (f : SFX) : Prop := ∀ γ M o M', f γ M = some (o, M') → ∀ (W : Wd) (H : Hp) (σ : St) (D : Ends), Good K W M H → RepS K W γ σ → (∀ W' H', W.Ext W' → Good K W' M' H' → OutOkX K EE D W' H' o) → t D σ H
end
/-! ### the functions -/
def liE (f : EF) : EX := fun γ M => (f γ M).bind fun r => some (.v r.1, r.2)
def liA (f : AF) : AX := fun γ M => (f γ M).bind fun r => some (.inl r.1, r.2)
def liS (f : SF) : SFX := fun γ M => (f γ M).bind fun r => some (.o r.1, r.2)
/-- then, if nothing is raised -/
def xThen (f : EX) (k : CD → Sto → Option (Rs × Sto)) : EX := fun γ M => (f γ M).bind fun r => match r.1 with
  | .x e => some (.x e, r.2)
  | .v x => k x r.2
def aThen (f : AX) (k : List CD → Sto → Option (Rs × Sto)) : EX := fun γ M => (f γ M).bind fun r => match r.1 with
  | .inr e => some (.x e, r.2)
  | .inl xs => k xs r.2
def xCall (h : FX) (f : AX) : EX := aThen f h
def sSeqX (f g : SFX) : SFX := fun γ M => (f γ M).bind fun r => match r.1 with
  | .o (.nx γ') => g γ' r.2
  | o => some (o, r.2)
def sRetX (f : EX) : SFX := fun γ M => (f γ M).bind fun r => match r.1 with
  | .x e => some (.xc γ e, r.2)
  | .v x => some (.o (.rt x), r.2)
def sDropX (f : EX) : SFX := fun γ M => (f γ M).bind fun r => match r.1 with
  | .x e => some (.xc γ e, r.2)
  | .v _ => some (.o (.nx γ), r.2)
def sAsgX (f : EX) (g : GF) : SFX := fun γ M => (f γ M).bind fun r => match r.1 with
  | .x e => some (.xc γ e, r.2)
  | .v x => (g x γ r.2).bind fun q => some (.o (.nx q.1), q.2)
def sIfX (c : TF) (f g : SFX) : SFX := fun γ M => (c γ M).bind fun r => if r.1 = true then f γ r.2 else g γ r.2
def sRaise (nm : Str) : SFX := fun γ M => some (.xc γ ⟨nm, []⟩, M)
def fnX (ps N : Nat) (b : SFX) : FX := fun xs M => if xs.length = ps then (b (xs.map some ++ List.replicate (N - xs.length) none) M).bind fun r => match r.1 with
  | .o (.rt x) => some (.v x, r.2)
  | .o (.nx _) => some (.v (.d .none), r.2)
  | .xc _ e => some (.x e, r.2)
  | _ => none else none
def unbG : Option Nat → Ga → Ga
  | none, γ => γ
  | some i, γ => γ.set i none
def setG : Option Nat → Ga → CD → Ga
  | none, γ, _ => γ
  | some i, γ, x => γ.set i (some x)
def unbO (n : Option Nat) : Out → Out
  | .nx γ => .nx (unbG n γ)
  | .bk γ => .bk (unbG n γ)
  | .ct γ => .ct (unbG n γ)
  | .rt x => .rt x
/-- a handler: of which classes it catches, the name's place, the suite -/
structure HMi where
  tab : List (Str × Bool)
  n : Option Nat
  f : SF
def hRun : List HMi → Ga → Exc → Sto → Option (Out × Sto)
  | [], _, _, _ => none
  | h :: r, γ, ex, M => match h.tab.lookup ex.nm with
    | some true => (h.f (setG h.n γ (.c M.length)) (M ++ [.exc false ex.nm ex.fs])).bind fun q => some (unbO h.n q.1, q.2)
    | some false => hRun r γ ex M
    | none => none
def sTry (b : SFX) (hs : List HMi) : SF := fun γ M => (b γ M).bind fun r => match r.1 with
  | .o o => some (o, r.2)
  | .xc γ' ex => hRun hs γ' ex r.2
/-! ### sound -/
section
variable {K : PySem.W.Frag} {EE : St → XK} {ta tb : TE} {tA : TA} {t u : TS} {f g : EX} {fa : AX} {p q : SFX} {tt : TT} {ft : TF} {tg : TG} {hg : GF}
theorem ResOk.up {E : XK} {Q : VK} {W : Wd} {H : Hp} {e : Exc} {Q' : VK} (h : ResOk K E Q W H (.x e)) : ResOk K E Q' W H (.x e) := h
/-! statements -/
theorem RepS.setN {W : Wd} {γ : Ga} {σ : St} {n : Option Nat} {x : CD} {v : V} (R : RepS K W γ σ) (r : RepV K W x v) : RepS K W (setG n γ x) (setN n σ v) := by
  cases n with
  | none => exact R
  | some i => exact Paired.set (x := some x) (y := some v) r i R
theorem RepS.unbN {W : Wd} {γ : Ga} {σ : St} {n : Option Nat} (R : RepS K W γ σ) : RepS K W (unbG n γ) (unbN n σ) := by
  cases n with
  | none => exact R
  | some i => exact Paired.set (x := none) (y := none) True.intro i R
/-- the handlers -/
inductive HsM (K : PySem.W.Frag) : List HR → List HMi → Prop
  | nil : HsM K [] []
  | cons {h : HR} {m : HMi} {hs : List HR} {ms : List HMi} (hn : h.n = m.n) (ht : ∀ nm b, m.tab.lookup nm = some b → PySem.W.exmOne K (.ref (clOf K nm)) h.c = some b) (hS : SS K h.t m.f) (r : HsM K hs ms) : HsM K (h :: hs) (m :: ms)
end
end L2

end

section
set_option Elab.async false
set_option linter.all false
set_option maxRecDepth 100000
set_option maxHeartbeats 4000000
namespace L2
open PySem PySem.Spec PyProof.Rows
section
variable {ι : Type}
structure MX (K : PySem.W.Frag) (X : ι → Cx) (EE : ι → St → XK) (e : Expr) (f : EX) : Prop where
  ex : ∃ t : ι → TE, (∀ i, PE (X i) e (t i)) ∧ ∀ i, SEX K (EE i) (t i) f
structure MAX (K : PySem.W.Frag) (X : ι → Cx) (EE : ι → St → XK) (es : List Expr) (f : AX) : Prop where
  ex : ∃ t : ι → TA, (∀ i, PA (X i) es (t i)) ∧ ∀ i, SAX K (EE i) (t i) f
  st : Stars es
structure MSX (K : PySem.W.Frag) (X : ι → Cx) (EE : ι → St → XK) (st : Stmt) (f : SFX) : Prop where
  ex : ∃ t : ι → TS, (∀ i, PS (X i) st (t i)) ∧ ∀ i, SSX K (EE i) (t i) f
structure MLX (K : PySem.W.Frag) (X : ι → Cx) (EE : ι → St → XK) (st : List Stmt) (f : SFX) : Prop where
  ex : ∃ t : ι → TS, (∀ i, PSs (X i) st (t i)) ∧ ∀ i, SSX K (EE i) (t i) f
variable {K : PySem.W.Frag} {X : ι → Cx} {EE : ι → St → XK} {e a b c tg iter : Expr} {es : List Expr} {f g : EX} {fa : AX} {p q : SFX} {ft : TF} {gf : GF} {st : Stmt} {sts sts' : List Stmt} {pos : Pos}
/-- the handlers -/
structure MH (K : PySem.W.Frag) (X : ι → Cx) (hs : List ExceptHandler) (ms : List HMi) : Prop where
  ex : ∃ rs, (∀ i, HsOk (X i) hs rs) ∧ HsM K rs ms
/-! a def that may raise -/
section
variable {P : Program} {w : World} {K : PySem.W.Frag} {mg : Str → Option Value} {base : Heap}
end
end
/-! isinstance of an exception -/
structure XC (K : PySem.W.Frag) (C : Addr) : Prop where
  c : XCls K C
  ha : PySem.W.findIn K (.ref C) "__class__" = some (some (.builtin "object.__class__"))
  hn : PySem.W.specialIn K (.builtin "object.__class__") "__get__" = some (some (.builtin "getset_descriptor.__get__"))
  htk : PySem.W.takesIn K (.builtin "object.__class__") = some true
  hm : PySem.W.mroIn K C (.type "object") = some true
/-- the exception's dict is there -/
def DxOk (H : Hp) : Option Addr → Prop
  | none => True
  | some d => ∃ us, H d = some (.xd us)
inductive ClV : V → Value → Prop
  | own (C : Addr) : ClV (.ref C) (.ref C)
  | ty (T : String) : ClV (.ty T) (.type T)
theorem ClV.is {v : V} {c u : Value} (h : ClV v c) (r : RelV v u) : u = c := by cases h <;> exact r
theorem ClV.rel {v : V} {c : Value} (h : ClV v c) : RelV v c := by cases h <;> exact rfl
def rIsiX (K : PySem.W.Frag) : List V → Hp → VK → Prop := fun xs H Q => ∃ v cv c b, xs = [v, cv] ∧ ClV cv c ∧ Q (.bl b) H ∧
  ((v = .non ∧ PySem.W.kitOne K (.type "NoneType") c = some b) ∨ ∃ a C dx fr, v = .ref a ∧ H a = some (.ext (ExcO a (.ref C) dx fr)) ∧ DxOk H dx ∧ XC K C ∧ PySem.W.kitOne K (.ref C) c = some b)
section
variable {X : Cx} {K : PySem.W.Frag}
theorem exc_inst {pins : List (Addr × Obj)} {σ : St} {H : Hp} {s : Shared} {a C : Addr} {dx : Option Addr} {fr : Bool} (I : Inv X pins σ H s) (h : H a = some (.ext (ExcO a (.ref C) dx fr))) (d : DxOk H dx) : ∃ ox od, PySem.W.InstAt s.heap a ox C od ∧ ox.dict = dx := by
  obtain ⟨⟨o, vs, h1, h2, h3, h4, _⟩, _⟩ := I.hok a _ h
  have no : PySem.W.notCls o = true := by
    obtain ⟨_, _, dt, _⟩ := o
    cases h4
    rfl
  cases dx with
  | none => exact ⟨o, none, ⟨h1, h2, no, by rw [h3]; exact True.intro⟩, h3⟩
  | some d' =>
    obtain ⟨us, hd⟩ := d
    obtain ⟨od, q⟩ := (I.hok d' _ hd).there
    exact ⟨o, some od, ⟨h1, h2, no, by rw [h3]; exact q⟩, h3⟩
theorem call_isiX : CallR X (.builtin "isinstance") (rIsiX X.K) := by
  intro pins s σ H vs us Q I r h
  obtain ⟨v, cv, c, b, rfl, rc, q, h⟩ := h
  obtain ⟨u, u', rfl, ru, ru'⟩ := vals2 r
  cases rc.is ru'
  rcases h with ⟨rfl, e⟩ | ⟨a, C, dx, fr, rfl, ha, d, xc, e⟩
  · cases (show u = Value.none from ru)
    exact PySem.W.kia_one PySem.W.kitx_none I.kIn True.intro e (fun z => nomatch z) fun tk => ⟨.bl _, H, I.tok tk, rfl, q⟩
  · cases (show u = Value.ref a from ru)
    obtain ⟨ox, od, J, _⟩ := exc_inst I ha d
    exact PySem.W.kia_one (kitx_exc xc.c xc.ha xc.hn xc.htk xc.hm) I.kIn ⟨ox, od, J⟩ e (fun z => nomatch z) fun tk => ⟨.bl _, H, I.tok tk, rfl, q⟩
theorem kIsiX (h : X.K = K) : CallR X (.builtin "isinstance") (rIsiX K) := by subst h; exact call_isiX
/-- tab: what it is of an exception of that class; nn: of None -/
def fIsiX (tab : List (Str × Bool)) (nn : Option Bool) (f : EF) : EF := fun γ M => (f γ M).bind fun r => match r.1 with
  | .c i => (match r.2[i]? with
    | some (.exc _ nm _) => (tab.lookup nm).bind fun b => some (.d (.bool b), r.2)
    | _ => none)
  | .d .none => nn.bind fun b => some (.d (.bool b), r.2)
  | _ => none
theorem RepX.ok {W : Wd} {H : Hp} {dx : Option Addr} {fs : List (Str × CD)} (r : RepX K W dx fs) (s : Same W.F H) : DxOk H dx := by
  cases dx with
  | none => exact True.intro
  | some d => obtain ⟨_, us, h, _⟩ := r; exact ⟨us, s _ _ h⟩
theorem Good.excAt {W : Wd} {M : Sto} {H : Hp} {i : Nat} {fr : Bool} {nm : Str} {fs : List (Str × CD)} (G : Good K W M H) (h : M[i]? = some (.exc fr nm fs)) : ∃ dx, H (W.α i) = some (.ext (ExcO (W.α i) (.ref (clOf K nm)) dx fr)) ∧ RepX K W dx fs := by
  obtain ⟨_, o, h2, h3⟩ := G.cs i _ h (by intro z; cases z)
  cases o with
  | ext φ =>
    obtain ⟨dx, rfl, r⟩ := h3
    exact ⟨dx, h2, r⟩
  | _ => exact False.elim h3
theorem se_isiX {tab : List (Str × Bool)} {nn : Option Bool} {ta : TE} {f : EF} {cv : V} {c : Value} (hc : ClV cv c) (ht : ∀ p ∈ tab, XC K (clOf K p.1) ∧ PySem.W.kitOne K (.ref (clOf K p.1)) c = some p.2) (hn : ∀ b, nn = some b → PySem.W.kitOne K (.type "NoneType") c = some b)
    (a : SE K ta f) : SE K (tCB (rIsiX K) (tCons ta (tCons (tC cv) tNil))) (fIsiX tab nn f) := by
  intro γ M x M' hh W H σ Q G R k
  obtain ⟨⟨y, M1⟩, h1, hh⟩ := bindE hh
  refine a _ _ _ _ h1 W H σ _ G R fun v W1 H1 e1 G1 r1 => ?_
  cases y with
  | c i =>
    dsimp only at hh
    cases e : M1[i]? with
    | none => rw [e] at hh; cases hh
    | some cl =>
      rw [e] at hh
      cases cl with
      | exc fr nm fs =>
        obtain ⟨b, h2, hh⟩ := bindE (show (tab.lookup nm).bind _ = _ from hh)
        cases hh
        obtain ⟨h3, h4⟩ := ht (nm, b) (PySem.mem_of_lookup h2)
        obtain ⟨dx, h5, h6⟩ := G1.excAt e
        exact ⟨v, cv, c, b, rfl, hc, k _ W1 H1 e1 G1 rfl, .inr ⟨_, _, dx, fr, r1.2, h5, h6.ok G1.fh, h3, h4⟩⟩
      | _ => cases hh
  | d y =>
    cases y with
    | none =>
      obtain ⟨b, h2, hh⟩ := bindE (show nn.bind _ = _ from hh)
      cases hh
      exact ⟨v, cv, c, b, rfl, hc, k _ W1 H1 e1 G1 rfl, .inl ⟨r1, hn b h2⟩⟩
    | _ => cases hh
end
section
variable {ι : Type} {K : PySem.W.Frag} {X : ι → Cx} {a : Expr} {f : EF} {pos : Pos}
/-- the name of a class: one of the text's, a built-in one -/
theorem cl_own {y : Str} {C : Addr} (hm : ∀ i, (X i).mg y = some (.ref C)) (hg : ∀ i, Gl (X i) y := by intro _; rfl) (hd : (y == ("__debug__" : Str)) = false := by decide) : ∀ i p', PE (X i) (.Name y p') (tC (.ref C)) := fun i _ => pe_glob (hg i) (hm i) rfl hd
theorem cl_ty {y : Str} {T : String} (hm : ∀ i, (X i).mg y = none) (hb : bootBuiltins y = some (.type T)) (hg : ∀ i, Gl (X i) y := by intro _; rfl) (hn : y ≠ "__name__" := by decide) (hd : (y == ("__debug__" : Str)) = false := by decide) : ∀ i p', PE (X i) (.Name y p') (tC (.ty T)) := fun i _ => pe_bltn (v := .ty T) (hg i) (hm i) hb rfl hn hd
theorem me_isiX {y : Str} {p p' : Pos} {tab : List (Str × Bool)} {nn : Option Bool} {cv : V} {c : Value} (hK : ∀ i, (X i).K = K) (hc : ClV cv c) (hy : ∀ i p', PE (X i) (.Name y p') (tC cv)) (ht : ∀ p ∈ tab, XC K (clOf K p.1) ∧ PySem.W.kitOne K (.ref (clOf K p.1)) c = some p.2) (hn : ∀ b, nn = some b → PySem.W.kitOne K (.type "NoneType") c = some b)
    (x : ME K X a f) (hs : Star a [.Name y p']) (hm : ∀ i, (X i).mg "isinstance" = none) (hg : ∀ i, Gl (X i) "isinstance" := by intro _; rfl) : ME K X (.Call (.Name "isinstance" p) [a, .Name y p'] [] pos) (fIsiX tab nn f) := by
  obtain ⟨t, x1, x2⟩ := x.ex
  exact ⟨_, fun i => pe_callB (kIsiX (hK i)) (hg i) (hm i) boot_isinstance (pa_cons (x1 i) (pa_cons (hy i _) pa_nil star_Name) (hs _)) (by decide) (by decide) (hs _) (plain_cons star_Name plain_nil), se_isiX hc ht hn x2⟩
end
/-! a call of such a def where nothing is raised -/
def fCallX (h : FX) (f : AF) : EF := fun γ M => (f γ M).bind fun r => (h r.1 r.2).bind fun q => match q.1 with
  | .v x => some (x, q.2)
  | .x _ => none
section
variable {X : Cx} {K : PySem.W.Frag}
end
theorem boot_ValueError : bootBuiltins "ValueError" = some (.type "ValueError") := by decide +kernel
/-! tables -/
section
variable {K : PySem.W.Frag} {cv : Value} {a : Str} {b : Bool} {l : List (Str × Bool)}
theorem nn_some {b : Bool} (h : PySem.W.kitOne K (.type "NoneType") cv = some b) : ∀ c, some b = some c → PySem.W.kitOne K (.type "NoneType") cv = some c := fun c e => by cases e; exact h
theorem clOf_of {nm : Str} {C : Addr} (h : PySem.W.nsIn K mainGlobals nm = some (some (.ref C))) : clOf K nm = C := by unfold clOf; rw [h]
end
end L2

end

section
set_option Elab.async false
set_option linter.all false
set_option maxRecDepth 100000
set_option maxHeartbeats 4000000
namespace L2
open PySem PySem.Spec PyProof.Rows
/-! # a cell read as data, as it stands now -/
section
variable {K : PySem.W.Frag} {W : Wd} {M : Sto} {H : Hp}
end
end L2

end

section
set_option Elab.async false
set_option linter.all false
set_option maxRecDepth 100000
set_option maxHeartbeats 4000000
namespace L2
open PySem PySem.Spec PyProof.Rows PySem.Builtin PySem.Builtin.ObjectAttr
/-! # an exception's own attribute is set: it had no dict -/
def overX : List Value → Bool
  | .ref _ :: r => overX r
  | l => l == bmV
theorem refuse_X (self : Value) : ∀ {l : List Value}, overX l = true → refuseLoop self "__setattr__" l = pure () ∧ l.contains (.type "object") = true ∧ l.isEmpty = false
  | [], e => absurd e (by decide)
  | .ref c :: r, e => by
    obtain ⟨h1, h2, _⟩ := refuse_X self (l := r) e
    exact ⟨by rw [refuseLoop_ref]; exact h1, by rw [List.contains_cons, h2, Bool.or_true], rfl⟩
  | .none :: r, e => absurd (beq_iff_eq.mp (show ((.none :: r : List Value) == bmV) = true from e)) (by intro z; cases z)
  | .bool b :: r, e => absurd (beq_iff_eq.mp (show ((.bool b :: r : List Value) == bmV) = true from e)) (by intro z; cases z)
  | .int b t :: r, e => absurd (beq_iff_eq.mp (show ((.int b t :: r : List Value) == bmV) = true from e)) (by intro z; cases z)
  | .type n :: r, e => by
    have q : (.type n :: r : List Value) = bmV := beq_iff_eq.mp (show ((.type n :: r : List Value) == bmV) = true from e)
    rw [q]
    exact ⟨PySem.F.store_ValueError.passes self, by decide, rfl⟩
  | v :: r, e => by
    cases v with
    | ref c =>
      obtain ⟨h1, h2, _⟩ := refuse_X self (l := r) e
      exact ⟨by rw [refuseLoop_ref]; exact h1, by rw [List.contains_cons, h2, Bool.or_true], rfl⟩
    | type n =>
      have q : (.type n :: r : List Value) = bmV := beq_iff_eq.mp (show ((.type n :: r : List Value) == bmV) = true from e)
      rw [q]
      exact ⟨PySem.F.store_ValueError.passes self, by decide, rfl⟩
    | _ => exact absurd (beq_iff_eq.mp e) (by intro z; cases z)
def xOver (K : PySem.W.Frag) (C : Addr) : Bool := (PySem.W.clsIn K C).any fun cd => overX cd.mro
section
variable {prog : Program} {w : World} {A : Around} {E : Value → Shared → Prop} {s : Shared} {K : PySem.W.Frag} {x C : Addr} {ox : Obj} {name : Str} {v : Value}
theorem exc_set {vs : Array Value} {Q : Unit → Shared → Prop} (X : K.In s.heap) (I : PySem.W.InstAt s.heap x ox C none) (hv : ox.data = .fields vs) (hs : PySem.W.findIn K (.ref C) "__setattr__" = some (some (.builtin "object.__setattr__"))) (hp : xOver K C = true) (ht : PySem.W.takerIn K C name = some none) (hh : PySem.W.hasDictIn K C = true)
    (h : ∀ h', h'.get? x = some { ox with dict := some s.heap.objs.size } → h'.Ns1 s.heap.objs.size (fun y => if y = name then some v else none) → (∀ b o, b ≠ x → s.heap.get? b = some o → h'.get? b = some o) → Q () { s with heap := h', toks := s.toks + 2 }) :
    wpAny (model prog w) A (setAttr (.ref x) name v) Q E s := by
  refine PySem.W.set_plain X I hs ?_
  have SF := PySem.F.store_object
  obtain ⟨cd, hc, ho⟩ := PySem.W.any_some hp
  obtain ⟨o1, o2, o3⟩ := refuse_X (.ref x) ho
  have sub : PySem.W.Looks (model prog w) s.heap (isInstance (.ref x) (.type "object")) true := I.type.andThen (PySem.W.looks_mroIn X (by unfold PySem.W.mroIn; rw [hc, Option.bind_some, if_neg (by rw [o3]; decide), o2]))
  refine codeAny_call_builtin SF.slot.plain SF.entry (@PySem.W.check_slot (model prog w) _ _ { s with toks := s.toks + 1 } "object.__setattr__" "object" "__setattr__" (.ref x) [.str name s.toks, v] [] _ SF.kind SF.split sub (SF.args (.ref x) (.str name s.toks) v) ?_)
  obtain ⟨attr, ha, hr⟩ := Option.bind_eq_some_iff.mp ht
  have hm : PySem.W.Looks (model prog w) s.heap (mroOf (.ref C)) cd.mro := (PySem.W.looks_clsIn X hc).andThen .now
  have L3 : PySem.W.Looks (model prog w) s.heap (storeTaker? attr) none := by
    cases attr with
    | none => cases hr; exact .now
    | some a =>
      obtain ⟨b, hb, e⟩ := Option.map_eq_some_iff.mp hr
      refine (PySem.W.looks_takesIn X hb).andThen ?_
      cases b
      · exact .now
      · cases e
  rw [PySem.W.osa_eq, refuse_eq]
  have k0 : ∀ b o, s.heap.get? b = some o → ({ s with toks := s.toks + 1 } : Shared).heap.get? b = some o := fun _ _ z => z
  refine wpAny_bind (wpAny_bind (PySem.W.Looks.here (s := { s with toks := s.toks + 1 }) I.type (wpAny_bind (PySem.W.Looks.here (s := { s with toks := s.toks + 1 }) hm ?_))))
  rw [o1]
  refine wpAny_pure (wpAny_bind (PySem.W.Looks.here (s := { s with toks := s.toks + 1 }) I.type (wpAny_bind (PySem.W.Looks.here (s := { s with toks := s.toks + 1 }) (PySem.W.looks_findIn X ha) (wpAny_bind (PySem.W.Looks.here (s := { s with toks := s.toks + 1 }) L3 ?_))))))
  -- its own dict is made
  obtain ⟨cd', hc', hd'⟩ := PySem.W.any_some hh
  have dn : ox.dict = none := by
    have := I.dict
    cases q : ox.dict with
    | none => rfl
    | some d => rw [q] at this; exact this.elim
  have hx := I.at_
  have hcl := I.cls
  obtain ⟨oc, odi, oda, osl⟩ := ox
  dsimp only at hcl dn hv
  subst hcl dn hv
  refine wpAny_bind (wpAny_pure (wpAny_bind (wpAny_bind (wpAny_loadPart hx (wpAny_bind (PySem.W.Looks.here (s := { s with toks := s.toks + 1 }) (PySem.W.looks_clsIn X hc') ?_))))))
  rw [hd']
  rw [if_neg (by decide)]
  show wpAny _ _ (if (!true || !typeHasDict (.ref C)) = true then pure none else _) _ _ _
  rw [if_neg (by simp [typeHasDict])]
  have x1 : (s.heap.push { cls := .type "dict", data := .dict #[] }).get? x = some ⟨.ref C, none, .fields vs, osl⟩ := Heap.get?_push_of_some _ hx
  have xs : x ≠ s.heap.objs.size := Nat.ne_of_lt (Heap.lt_size hx)
  refine wpAny_bind (wpAny_alloc' ?_)
  refine wpAny_bind (wpAny_update' x1 ?_)
  refine wpAny_pure ?_
  generalize hg : (s.heap.push { cls := .type "dict", data := .dict #[] }).update x (fun o => { cls := o.cls, dict := some s.heap.objs.size, data := o.data, slots := o.slots }) = g1
  have gd : g1.get? s.heap.objs.size = some { cls := .type "dict", data := .dict #[] } := by
    rw [← hg]
    exact (Heap.get?_update_other _ _ xs).trans (Heap.get?_push_size s.heap rfl)
  have gn : g1.Ns s.heap.objs.size (fun _ => none) := ⟨_, #[], _, gd, rfl, fun e he => absurd he (by simp), fun _ => rfl⟩
  show wpAny _ _ (storeInDict s.heap.objs.size (.str name s.toks) name v) _ _ _
  unfold storeInDict newKeyGuard
  refine wpAny_bind (wpAny_pure (wpAny_bind (wpAny_nsSet1 (Heap.Ns1.of_empty gn) fun h' hn' hs' => ?_)))
  obtain ⟨oD, esD, epD, hoD, hdD, hcD⟩ := hn'.count (PySem.Within.cons name v PySem.Within.nil)
  refine wpAny_bind (wpAny_lookBehind hoD (by rw [hdD]; exact pastItsLine_dict (Nat.le_trans hcD (by rw [List.length_cons, List.length_nil, sizeLine_eq]; omega))) ?_)
  refine wpAny_pure ?_
  refine h h' ?_ hn' fun b o hb q => ?_
  · rw [hs'.2 x xs, ← hg]
    exact Heap.get?_update_self _ x1 rfl
  · rw [hs'.2 b (Nat.ne_of_lt (Heap.lt_size q)), ← hg, Heap.get?_update_other _ _ (Ne.symm hb)]
    exact Heap.get?_push_of_some _ q
end
end L2

end

section
set_option Elab.async false
set_option linter.all false
set_option maxRecDepth 100000
set_option maxHeartbeats 4000000
namespace L2
open PySem PySem.Spec PyProof.Rows
/-! # C(..), C an exception's class with an own __init__ -/
def excT (K : PySem.W.Frag) (C : Addr) : Bool := match K.lookup C with
  | some ⟨.type "type", _, .cls cd, sl⟩ => (match cd.mro, sl.toList with
    | .ref C' :: bm, [_, _, _, _, some (.builtin n), _] => C' == C && n == "ValueError.__new__" && !cd.hasDel && PySem.W.tailIn K bmV bm
    | _, _ => false)
  | _ => false
theorem exc_ownT {K : PySem.W.Frag} {h : Heap} {C : Addr} (X : K.In h) (q : excT K C = true) :
    ∃ bm N nm qn bs hd sn sub ab col dd k0 k1 k2 k3 k5, h.get? C = some (excClassObj nm qn C N bs bm hd sn sub ab col dd k0 k1 k2 k3 k5 "ValueError.__new__") ∧ OwnTail h bmV bm := by
  unfold excT at q
  split at q
  case h_2 => cases q
  case h_1 dd cd sl lk =>
    split at q
    case h_2 => cases q
    case h_1 C' bm k0 k1 k2 k3 n k5 hm hs =>
      simp only [Bool.and_eq_true, beq_iff_eq, Bool.not_eq_true'] at q
      obtain ⟨⟨⟨q1, q2⟩, q3⟩, q4⟩ := q
      subst q1 q2
      cases cd with
      | mk nm bs mro ns qn hd sn sub ab col del =>
        cases hm
        cases q3
        have es : sl = #[k0, k1, k2, k3, some (.builtin "ValueError.__new__"), k5] := by
          cases sl with
          | mk l => exact congrArg Array.mk hs
        cases es
        exact ⟨bm, ns, nm, qn, bs, hd, sn, sub, ab, col, dd, k0, k1, k2, k3, k5, X _ _ lk, PySem.W.tail_of_in X q4⟩
section
variable {prog : Program} {w : World} {A : Around} {E : Value → Shared → Prop} {K : PySem.W.Frag} {C f : Addr}
theorem init_tc {h : Heap} {g : Array GenState} {d : Drawn} {t : Nat} {os : OsState} {us : List Value} {Q : Fin → Shared → Prop} (X : K.In h) (q : excT K C = true) (hi : PySem.W.findIn K (.ref C) "__init__" = some (some (.ref f))) (hf : PySem.W.typeIn K (.ref f) = some (.type "function")) (hl : us.length ≤ sizeLine)
    (hq : ∀ h' e, Heap.MadeExcOf h h' e (.ref C) us → wpAny (model prog w) A (call (.ref f) (.ref e :: us)) (fun r s' => r = .none ∧ Q (.done (.ret (.ref e))) s') E ⟨h', g, d, t, os⟩) :
    wpAny (model prog w) A (Builtin.«type.__call__» ⟨.ref C :: us, []⟩) Q E ⟨h, g, d, t, os⟩ := by
  obtain ⟨bm, N, nm, qn, bs, hd, sn, sub, ab, col, dd, k0, k1, k2, k3, k5, hC, T⟩ := exc_ownT X q
  have F := PySem.F.excBase_ValueError
  repeat (first | (with_reducible refine wpAny_loadPart_at hC ?_) | (with_reducible refine wpAny_madeBy_exc hC ?_) | wp_step)
  refine codeAny_call_builtin_code (Code.quiet_builtin _ F.quiet) (wpAny_check_new_subT F T hC (codeAny_exc_new_subT F T hC ?_ hl))
  show wpAny _ _ _ _ _ _
  have kp : ∀ b o, h.get? b = some o → ((h.push { cls := .type "tuple", data := .seq us.toArray }).push { cls := .ref C, data := .fields #[.ref h.objs.size, .none, .none, .none, .bool false, .none] }).get? b = some o := fun b o z => Heap.get?_push_of_some _ (Heap.get?_push_of_some _ z)
  have he : ((h.push { cls := .type "tuple", data := .seq us.toArray }).push { cls := .ref C, data := .fields #[.ref h.objs.size, .none, .none, .none, .bool false, .none] }).get? (h.objs.size + 1) = some { cls := .ref C, data := .fields #[.ref h.objs.size, .none, .none, .none, .bool false, .none] } := by
    have := Heap.get?_push_size (h.push { cls := .type "tuple", data := .seq us.toArray }) (o := { cls := .ref C, data := .fields #[.ref h.objs.size, .none, .none, .none, .bool false, .none] }) rfl
    rwa [Heap.size_push] at this
  have ht : ((h.push { cls := .type "tuple", data := .seq us.toArray }).push { cls := .ref C, data := .fields #[.ref h.objs.size, .none, .none, .none, .bool false, .none] }).get? h.objs.size = some { cls := .type "tuple", data := .seq us.toArray } := Heap.get?_push_of_some _ (Heap.get?_push_size h rfl)
  have cC : (Value.ref C :: bm).contains (.ref C) = true := by simp
  have hC1 := kp _ _ hC
  have L1 := PySem.W.looks_findIn (M := model prog w) (X.keeps kp) hi
  have L2 := PySem.W.bind_fn (M := model prog w) (X.keeps kp) (.ref (h.objs.size + 1)) hf
  unfold isInstance
  repeat (first | (with_reducible refine wpAny_loadPart_at he ?_) | (with_reducible refine wpAny_isSubtype_exc hC1 ?_; rw [cC]) | wp_step)
  show wpAny _ _ (typeLookup (.ref C) _) _ _ _
  refine L1.at ?_
  refine wpAny_holding (wpAny_bind (L2.at ?_))
  refine wpAny_bind (wpAny_mono (hq _ (h.objs.size + 1) ⟨kp, Heap.get?_none_of_le (Nat.le_succ _), h.objs.size, he, Heap.get?_none_of_le (Nat.le_refl _), ht⟩) (fun r s' z => ?_) fun _ _ z => z)
  obtain ⟨rfl, z⟩ := z
  wp_walk
  exact z
theorem init_call {s : Shared} {us : List Value} {Q : Value → Shared → Prop} (X : K.In s.heap) (q : excT K C = true) (hi : PySem.W.findIn K (.ref C) "__init__" = some (some (.ref f))) (hf : PySem.W.typeIn K (.ref f) = some (.type "function")) (hl : us.length ≤ sizeLine)
    (hq : ∀ h' e, Heap.MadeExcOf s.heap h' e (.ref C) us → wpAny (model prog w) (A.under (.builtin "type.__call__" ⟨.ref C :: us, []⟩)) (call (.ref f) (.ref e :: us)) (fun r s' => r = .none ∧ Q (.ref e) s') E { s with heap := h' }) :
    wpAny (model prog w) A (call (.ref C) us) Q E s := by
  obtain ⟨bm, N, nm, qn, bs, hd, sn, sub, ab, col, dd, k0, k1, k2, k3, k5, hC, T⟩ := exc_ownT X q
  obtain ⟨h, g, d, t, os⟩ := s
  have f1 := tc_lookup
  have f2 := tc_bind (.ref C)
  have hT : (⟨h, g, d, t, os⟩ : Shared).TypeIs (.ref C) "type" := ⟨_, hC, rfl⟩
  refine wpAny_call (codeAny_of_tree ?_)
  show wpAny _ _ (callAny (.ref C) ⟨us, []⟩) _ _ _
  repeat (any_goals (first | assumption | (with_reducible refine wpAny_loadPart_at hC ?_) | wp_step))
  refine ⟨rfl, ?_⟩
  refine codeAny_call_builtin_at (Code.quiet_builtin _ (by decide +kernel)) entry_typeCall (wpAny_check_type_call_sub hC (init_tc (f := f) X q hi hf hl fun h' e mk => ?_))
  exact hq h' e mk
end
end L2

end

section
set_option Elab.async false
set_option linter.all false
set_option maxRecDepth 100000
set_option maxHeartbeats 4000000
namespace L2
open PySem PySem.Spec PyProof.Rows
/-! # exceptions made, their fields -/
section
variable {X : Cx} {pins : List (Addr × Obj)} {σ : St} {H : Hp} {s : Shared}
/-- what of the text the class of an exception with fields must have -/
structure XSet (K : PySem.W.Frag) (C : Addr) (f : Str) : Prop where
  sa : PySem.W.findIn K (.ref C) "__setattr__" = some (some (.builtin "object.__setattr__"))
  ov : xOver K C = true
  tk : PySem.W.takerIn K C f = some none
  hd : PySem.W.hasDictIn K C = true
  na : PySem.W.findIn K (.ref C) f = some none
/-- e.f = v, the first field -/
theorem setX_ok {A : Around} {E : Value → Shared → Prop} {a C : Addr} {f : Str} {y : V} {u : Value} {Q : Unit → Shared → Prop} (I : Inv X pins σ H s) (e : H a = some (.ext (ExcO a (.ref C) none true))) (c : XSet X.K C f) (ry : RelV y u)
    (h : ∀ d s', H d = none → d ≠ a → Inv X pins σ (upd (upd H d (.xd [(f, y)])) a (.ext (ExcO a (.ref C) (some d) true))) s' → Q () s') : wpAny (model X.prog X.w) A (setAttr (.ref a) f u) Q E s := by
  obtain ⟨⟨o, vs, h1, h2, h3, h4, h5⟩, _⟩ := I.hok a _ e
  obtain ⟨z1, z2⟩ := h5 rfl
  have no : PySem.W.notCls o = true := by
    obtain ⟨_, _, dt, _⟩ := o
    cases h4
    rfl
  have hn : H s.heap.objs.size = none := I.hok.fresh (Nat.le_refl _)
  have hne : s.heap.objs.size ≠ a := Nat.ne_of_gt (Heap.lt_size h1)
  refine exc_set I.kIn ⟨h1, h2, no, by rw [h3]; exact True.intro⟩ h4 c.sa c.ov c.tk c.hd fun h' q1 q2 q3 => h s.heap.objs.size _ hn hne ?_
  have hda : ∀ b w, H b = some w → b ≠ s.heap.objs.size := fun b w z => ne_of_none z hn
  refine I.un (t' := s.toks + 2) ⟨fun b ob z n _ _ => ?_, fun b ob z n _ _ => ?_, fun b ob z n _ => ?_, fun b ob z _ => ?_, fun b xs z => ?_, fun b ob w z => ?_, fun b ps z => ?_⟩ fun b w z => ?_
  · exact q3 b ob (fun w => by rw [w, e] at n; cases n) z
  · exact ⟨ob.slots, q3 b ob (fun w => by rw [w, e] at n; cases n) z⟩
  · rw [upd_ne (fun w => by rw [w, e] at n; cases n), upd_ne (Nat.ne_of_lt (Heap.lt_size z))]
    exact n
  · by_cases w : b = a
    · rw [w]; exact ⟨_, q1⟩
    · exact ⟨ob, q3 b ob w z⟩
  · rw [upd_ne (ne_of z e (by intro w; cases w)), upd_ne (hda _ _ z)]; exact z
  · rw [upd_ne (ne_of z e (by intro w; cases w)), upd_ne (hda _ _ z)]; exact z
  · exact ⟨#[], by rw [upd_ne (ne_of z e (by intro w; cases w)), upd_ne (hda _ _ z), z]; simp⟩
  · by_cases hb : b = a
    · subst hb
      rw [upd_same] at z
      cases z
      exact ⟨⟨_, vs, q1, h2, rfl, h4, h5⟩, ⟨_, q1⟩, fun g1 g2 ⟨o', ws, k1, k2⟩ kk => ⟨o', ws, kk o' k1, k2⟩⟩
    · rw [upd_ne hb] at z
      by_cases hd : b = s.heap.objs.size
      · subst hd
        rw [upd_same] at z
        cases z
        refine ⟨_, q2, fun g => ?_⟩
        show RelO (List.lookup g [(f, y)]) (if g = f then some u else none)
        by_cases gf : g = f
        · rw [if_pos gf, gf, List.lookup_cons, beq_self_eq_true]; exact ry
        · rw [if_neg gf, List.lookup_cons, beq_eq_false_iff_ne.mpr gf]; exact True.intro
      · rw [upd_ne hd] at z
        refine (I.hok b w z).stay (fun c v hc r => q3 c v ?_ r) (fun c r => ?_) fun c xs r => ?_
        · rcases hc with rfl | hc
          · exact hb
          · exact ne_of hc e (by intro w; cases w)
        · rw [upd_ne (ne_of r e (by intro w; cases w)), upd_ne (hda _ _ r)]; exact r
        · rw [upd_ne (ne_of r e (by intro w; cases w)), upd_ne (hda _ _ r)]; exact r
/-- e.f -/
theorem getX_ok {A : Around} {E : Value → Shared → Prop} {a C d : Addr} {f : Str} {fr b : Bool} {us : List (Str × V)} {v : V} {Q : Value → Shared → Prop} (I : Inv X pins σ H s) (e : H a = some (.ext (ExcO a (.ref C) (some d) fr))) (hd : H d = some (.xd us)) (c : XCls X.K C) (cs : XSet X.K C f) (l : us.lookup f = some v)
    (h : ∀ u s', Inv X pins σ H s' → RelV v u → Q u s') : wpAny (model X.prog X.w) A (getAttr (.ref a) f b) Q E s := by
  obtain ⟨⟨o, vs, h1, h2, h3, h4, h5⟩, _⟩ := I.hok a _ e
  obtain ⟨mA, n1, r⟩ := (show ObjOk X.prog X.w H s.heap d (.xd us) from I.hok d _ hd)
  obtain ⟨u, hu, ru⟩ := RelO.some_of (v := v) (o := mA f) (by rw [← l]; exact r f)
  obtain ⟨od, ho, hl⟩ := lookIn_ns n1
  have no : PySem.W.notCls o = true := by
    obtain ⟨_, _, dt, _⟩ := o
    cases h4
    rfl
  have J : PySem.W.InstAt s.heap a o C (some od) := ⟨h1, h2, no, by rw [h3]; exact ho⟩
  exact exc_get I.kIn J c (PySem.W.findObj_own cs.hd cs.na rfl (by rw [hl, hu])) (handed_of ru) (h u _ (I.tok _) ru)
theorem Inv.newX {C e : Addr} {us : List Value} {h' : Heap} (I : Inv X pins σ H s) (mk : Heap.MadeExcOf s.heap h' e (.ref C) us) : H e = none ∧ Inv X pins σ (upd H e (.ext (ExcO e (.ref C) none true))) { s with heap := h' } := by
  have hn : H e = none := by
    cases z : H e with
    | none => rfl
    | some u =>
      obtain ⟨o, z'⟩ := (I.hok e u z).there
      rw [mk.new] at z'
      cases z'
  obtain ⟨t, he, _, _⟩ := mk.there
  refine ⟨hn, I.un (t' := s.toks) ⟨fun b o q _ _ _ => mk.keeps b o q, fun b o q _ _ _ => ⟨o.slots, mk.keeps b o q⟩, fun b o q n _ => ?_, fun b o q _ => ⟨o, mk.keeps b o q⟩, fun b xs q => ?_, fun b o u q => ?_, fun b ps q => ?_⟩ fun b u q => ?_⟩
  · rw [upd_ne (fun z => by rw [z, mk.new] at q; cases q)]; exact n
  · rw [upd_ne (ne_of_none q hn)]; exact q
  · rw [upd_ne (ne_of_none q hn)]; exact q
  · exact ⟨#[], by rw [upd_ne (ne_of_none q hn), q]; simp⟩
  · by_cases hb : b = e
    · subst hb
      rw [upd_same] at q
      cases q
      exact ⟨⟨_, _, he, rfl, rfl, rfl, fun _ => ⟨by show 1 < 6; decide, rfl⟩⟩, ⟨_, he⟩, fun g1 g2 ⟨o', ws, k1, k2⟩ kk => ⟨o', ws, kk o' k1, k2⟩⟩
    · rw [upd_ne hb] at q
      exact (I.hok b u q).stay (fun c v _ r => mk.keeps c v r) (fun c r => by rw [upd_ne (ne_of_none r hn)]; exact r) fun c xs r => by rw [upd_ne (ne_of_none r hn)]; exact r
end
/-! ## C() -/
section
variable {X : Cx} {C f : Addr} {x : Str} {p pos : Pos} {k : Nat} {fd : FuncData} {ps : List Str} {sp : Sp} {e : Expr} {es : List Expr} {t : TA}
def tMakeX0 (C : Addr) : TE := fun _ H Q => ∀ a, H a = none → Q (.ref a) (upd H a (.ext (ExcO a (.ref C) none true)))
theorem pe_makeX0 (q : PySem.W.excIn X.K C bmV "ValueError.__new__" = true) (hk : PySem.W.keepIn X.K (.ref C) = true) (hg : Gl X x) (hm : X.mg x = some (.ref C)) (hdb : (x == ("__debug__" : Str)) = false) : PE X (.Call (.Name x p) [] [] pos) (tMakeX0 C) := by
  intro pins s σ H Q I h
  refine wpAny_Call_Name_kw (ld_glob I hg hm ?_ hdb)
  refine PySem.W.callWith_K0 I.kIn hk ?_
  obtain ⟨bm, N, nm, qn, bs, hd, sn, sub, ab, col, dd, k0, k1, k2, k3, k5, mN, oC, oN, oi, ot⟩ := exc_own I.kIn q
  refine wpAny_call_exc_subT (hrest := Nat.zero_le _) F.excBase_ValueError ot oC oN oi fun h' a mk => ?_
  obtain ⟨h1, h2⟩ := I.newX mk
  exact ⟨.ref a, _, h2, rfl, h a h1⟩
structure MkX (K : PySem.W.Frag) (C f : Addr) : Prop where
  ex : excT K C = true
  init : PySem.W.findIn K (.ref C) "__init__" = some (some (.ref f))
  fn : PySem.W.isFn K (.ref f) = true
  kp : PySem.W.keepIn K (.ref C) = true
def tMakeX (C : Addr) (sp : Sp) (t : TA) : TE := fun σ H Q => t σ H fun vs H1 => vs.length ≤ sizeLine ∧ ∀ a, H1 a = none → sp (.ref a :: vs) (upd H1 a (.ext (ExcO a (.ref C) none true))) (fun v H2 => v = .non ∧ Q (.ref a) H2) E0
theorem run_makeX {pins : List (Addr × Obj)} {σ : St} {H : Hp} {s : Shared} {Q : VK} {us : List Value} {vs : List V} (M : MkX X.K C f) (F : FnOk X.prog X.w X.K X.mg X.base CX0 k f fd ps sp) (hr : Room (k + 1) X.A) (hb : Binds X.K fd ps []) (I : Inv X pins σ H s) (r : Vals vs us)
    (hl : vs.length ≤ sizeLine) (h : ∀ a, H a = none → sp (.ref a :: vs) (upd H a (.ext (ExcO a (.ref C) none true))) (fun v H2 => v = .non ∧ Q (.ref a) H2) E0) :
    wpAny (model X.prog X.w) X.A (call (.ref C) us) (fun v s' => ∃ a H', v = .ref a ∧ Inv X pins σ H' s' ∧ (X.ex = [] → X.s₀.heap.get? a = none) ∧ Q (.ref a) H') X.xe s := by
  refine init_call I.kIn M.ex M.init (beq_iff_eq.mp M.fn) (by rw [← r.length]; exact hl) fun h' a mk => ?_
  obtain ⟨h1, I2⟩ := I.newX mk
  have hq := h a h1
  have r2 : Vals (V.ref a :: vs) (Value.ref a :: us) := .cons rfl r
  have hlen : (Value.ref a :: us).length = ps.length := by
    have e := r2.length
    rw [F.len _ _ _ _ hq] at e
    exact e.symm
  have b := hb { s with heap := h' } (Value.ref a :: us) I2.kIn (by rw [List.append_nil]; exact hlen)
  rw [List.append_nil] at b
  refine wpAny_call (codeAny_mono (F.run _ X.stack _ _ ⟨Value.ref a :: us, []⟩ (Value.ref a :: us) _ _ E0 (hr.make C us []) (I2.env0.make C us []) b r2 hq) fun rr s' hq' => ?_)
  cases rr with
  | error e => exact False.elim hq'
  | ok fl =>
    cases fl with
    | ret u =>
      obtain ⟨v, H', I3, rv, ev, q3⟩ := I2.after hq'
      subst ev
      have nw : X.ex = [] → X.s₀.heap.get? a = none := fun hx => by
        cases z : X.s₀.heap.get? a with
        | none => rfl
        | some o =>
          obtain ⟨o1, z1⟩ := I.base.there a o z (by rw [hx]; simp)
          rw [mk.new] at z1
          cases z1
      exact ⟨rv, a, H', rfl, I3, nw, q3⟩
    | next => exact False.elim hq'
    | brk => exact False.elim hq'
    | cont => exact False.elim hq'
theorem pe_makeX' (M : MkX X.K C f) (F : FnOk X.prog X.w X.K X.mg X.base CX0 k f fd ps sp) (hr : Room (k + 1) X.A) (hg : Gl X x) (hm : X.mg x = some (.ref C)) (hb : Binds X.K fd ps [])
    (ha : PA X (e :: es) t) (hdb : (x == ("__debug__" : Str)) = false) (he : starEach (e :: es) X.env = (false, eval e X.env) :: starEach es X.env) (hpl : (backTo pos (starEach es X.env)).any (·.1) = false)
    {pins : List (Addr × Obj)} {s : Shared} {σ : St} {H : Hp} {Q : VK} (I : Inv X pins σ H s) (h : tMakeX C sp t σ H Q) :
    wpAny (model X.prog X.w) X.A (eval (.Call (.Name x p) (e :: es) [] pos) X.env) (fun v s' => ∃ a H', v = .ref a ∧ Inv X pins σ H' s' ∧ (X.ex = [] → X.s₀.heap.get? a = none) ∧ Q (.ref a) H') X.xe s := by
  refine wpAny_Call_Name_kw (ld_glob I hg hm ?_ hdb)
  exact PySem.W.callWith_K (h₀ := X.base) I.ok.mod.kin M.kp (thn (ha pos pins s σ H _ I h) fun us s1 ⟨vs, H1, I1, r, hl, q⟩ => ⟨I1.kIn, run_makeX M F hr hb I1 r hl q⟩) he hpl
theorem pe_makeX (M : MkX X.K C f) (F : FnOk X.prog X.w X.K X.mg X.base CX0 k f fd ps sp) (hr : Room (k + 1) X.A) (hg : Gl X x) (hm : X.mg x = some (.ref C)) (hb : Binds X.K fd ps [])
    (ha : PA X (e :: es) t) (hdb : (x == ("__debug__" : Str)) = false) (he : starEach (e :: es) X.env = (false, eval e X.env) :: starEach es X.env) (hpl : (backTo pos (starEach es X.env)).any (·.1) = false) :
    PE X (.Call (.Name x p) (e :: es) [] pos) (tMakeX C sp t) := fun pins s σ H Q I h =>
  thn (pe_makeX' M F hr hg hm hb ha hdb he hpl I h) fun v s' ⟨a, H', ev, I', _, q⟩ => ⟨.ref a, H', I', ev, q⟩
end
end L2

end

section
set_option Elab.async false
set_option linter.all false
set_option maxRecDepth 100000
set_option maxHeartbeats 4000000
namespace L2
open PySem PySem.Spec PyProof.Rows
/-! # raise C(..) -/
section
variable {X : Cx} {C f : Addr} {x : Str} {p cpos pos : Pos} {k : Nat} {fd : FuncData} {ps : List Str} {sp : Sp} {e : Expr} {es : List Expr} {t : TA}
end
end L2

end

section
set_option Elab.async false
set_option linter.all false
set_option maxRecDepth 100000
set_option maxHeartbeats 4000000
namespace L2
open PySem PySem.Spec PyProof.Rows
/-! # exceptions made, their fields: the mirrors -/
section
variable {X : Cx} {o value e : Expr} {ta tv : TE} {f : Str} {pos pos' : Pos}
def sXFldT (K : PySem.W.Frag) (ta tv : TE) (f : Str) : TS := fun D σ H => tv σ H fun y H1 => ta σ H1 fun x H2 => ∃ a C, x = .ref a ∧ H2 a = some (.ext (ExcO a (.ref C) none true)) ∧ XSet K C f ∧ ∀ d, H2 d = none → d ≠ a → D.nx σ (upd (upd H2 d (.xd [(f, y)])) a (.ext (ExcO a (.ref C) (some d) true)))
theorem ps_xfld (ha : PE X o ta) (hv : PE X value tv) (hs : swapsWith value (some (.Attribute o f pos')) pos.line X.env = pure false) : PS X (.Assign [.Attribute o f pos'] value pos) (sXFldT X.K ta tv f) := by
  intro pins s σ H D I h
  refine plainObj_wpAny_Assign_Attribute (thn (hv pins s σ H _ I h) fun u s1 ⟨y, H1, I1, ry, q⟩ => thn (ha pins s1 σ H1 _ I1 q) fun ov s2 ⟨x, H2, I2, rx, a, C, ex, ea, c, q2⟩ => ?_) hs
  subst ex
  obtain rfl : ov = Value.ref a := rx
  exact setX_ok I2 ea c ry fun d s3 hd hne I3 => ⟨σ, _, I3, q2 d hd hne⟩
def tXFld (K : PySem.W.Frag) (ta : TE) (f : Str) : TE := fun σ H Q => ta σ H fun x H1 => ∃ a C d fr us v, x = .ref a ∧ H1 a = some (.ext (ExcO a (.ref C) (some d) fr)) ∧ H1 d = some (.xd us) ∧ XCls K C ∧ XSet K C f ∧ us.lookup f = some v ∧ Q v H1
theorem pe_xfld (he : PE X e ta) (hb : attributeBase e f X.env (eval e X.env) = eval e X.env) : PE X (.Attribute e f pos) (tXFld X.K ta f) := by
  intro pins s σ H Q I h
  refine attr_of hb (thn (he pins s σ H _ I h) fun u s1 ⟨x, H1, I1, rx, a, C, d, fr, us, v, ex, ea, hd, c, n, l, q⟩ => ?_)
  subst ex
  obtain rfl : u = Value.ref a := rx
  exact getX_ok I1 ea hd c n l fun u' s2 I2 ru => ⟨v, H1, I2, ru, q⟩
end
/-! ### the functions -/
def fMakeX0 (nm : Str) : EF := fun _ M => some (.c M.length, M ++ [.exc true nm []])
def fMakeX (nm : Str) (h : FN) (fa : AF) : EF := fun γ M => (fa γ M).bind fun r => if r.1.length ≤ sizeLine then (h (.c r.2.length :: r.1) (r.2 ++ [.exc true nm []])).bind fun q => if isNon q.1 = true then some (.c r.2.length, q.2) else none else none
def excOf (M : Sto) : CD → Option (Nat × Bool × Str × List (Str × CD))
  | .c i => match M[i]? with
    | some (.exc fr nm fs) => some (i, fr, nm, fs)
    | _ => none
  | _ => none
theorem excOf_at {M : Sto} {x : CD} {i : Nat} {fr : Bool} {nm : Str} {fs : List (Str × CD)} (h : excOf M x = some (i, fr, nm, fs)) : x = .c i ∧ M[i]? = some (.exc fr nm fs) := by
  unfold excOf at h
  split at h
  · rename_i j
    split at h
    · rename_i a b c e
      cases h
      exact ⟨rfl, e⟩
    · cases h
  · cases h
def sXFldF (nm f : Str) (eo ev : EF) : SF := fun γ M => (ev γ M).bind fun v => (eo γ v.2).bind fun o => (excOf o.2 o.1).bind fun p => if p.2.1 = true ∧ p.2.2.1 = nm ∧ p.2.2.2.isEmpty = true then some (.nx γ, o.2.set p.1 (.exc true nm [(f, v.1)])) else none
def fXFld (nms : List Str) (f : Str) (e : EF) : EF := fun γ M => (e γ M).bind fun r => (excOf r.2 r.1).bind fun p => if p.2.2.1 ∈ nms then (p.2.2.2.lookup f).bind fun v => some (v, r.2) else none
/-! ### sound -/
section
variable {K : PySem.W.Frag} {EE : St → XK} {ta tv : TE} {tA : TA}
theorem se_makeX0 {nm : Str} : SE K (tMakeX0 (clOf K nm)) (fMakeX0 nm) := by
  intro γ M x M' hh W H σ Q G R k
  cases hh
  intro a ha
  exact k _ (W.more a) _ (W.ext_more a) (G.new ha ⟨none, rfl, rfl⟩) G.newV
theorem se_makeX {nm : Str} {h : FN} {fa : AF} (b : SA K tA fa) : SE K (tMakeX (clOf K nm) (spM K h) tA) (fMakeX nm h fa) := by
  intro γ M x M' hh W H σ Q G R k
  obtain ⟨⟨ys, M1⟩, h1, hh⟩ := bindE hh
  have hl : ys.length ≤ sizeLine := by
    by_cases z : ys.length ≤ sizeLine
    · exact z
    · rw [if_neg z] at hh; cases hh
  rw [if_pos hl] at hh
  obtain ⟨⟨z, M2⟩, h2, hh⟩ := bindE hh
  have hz : isNon z = true := by
    cases q : isNon z with
    | true => rfl
    | false => rw [q] at hh; cases hh
  rw [if_pos hz] at hh
  cases hh
  have hz' := isNon_of hz
  subst hz'
  refine b _ _ _ _ h1 W H σ _ G R fun vs W1 H1 e1 G1 r1 => ⟨by rw [← Paired.len r1]; exact hl, fun a ha => ?_⟩
  have Gb := G1.new ha (c := .exc true nm []) (o := .ext (ExcO a (.ref (clOf K nm)) none true)) ⟨none, rfl, rfl⟩
  have e2 := W1.ext_more a
  refine ⟨.c M1.length :: ys, M1 ++ [.exc true nm []], W1.more a, .d .none, M2, Gb, .cons G1.newV (RepVs.up r1 e2), h2, fun v W3 H3 e3 G3 r3 => ⟨r3, ?_⟩⟩
  exact k _ W3 H3 ((e1.trans e2).trans e3) G3 (G1.newV.up e3)
theorem ss_xfld {nm f : Str} {eo ev : EF} (c : XSet K (clOf K nm) f) (a : SE K ta eo) (b : SE K tv ev) : SS K (sXFldT K ta tv f) (sXFldF nm f eo ev) := by
  intro γ M o M' hh W H σ D G R k
  obtain ⟨⟨y, M1⟩, h1, hh⟩ := bindE hh
  obtain ⟨⟨z, M2⟩, h2, hh⟩ := bindE hh
  obtain ⟨⟨i, fr, nm', fs⟩, h3, hh⟩ := bindE hh
  by_cases hc : fr = true ∧ nm' = nm ∧ fs.isEmpty = true
  · have hh : (if fr = true ∧ nm' = nm ∧ fs.isEmpty = true then some (Out.nx γ, M2.set i (.exc true nm [(f, y)])) else none) = some (o, M') := hh
    rw [if_pos hc] at hh
    cases hh
    obtain ⟨rfl, rfl, q⟩ := hc
    have q : fs = [] := by cases fs with | nil => rfl | cons _ _ => cases q
    subst q
    refine b _ _ _ _ h1 W H σ _ G R fun v W1 H1 e1 G1 r1 => ?_
    refine a _ _ _ _ h2 W1 H1 σ _ G1 (R.up e1) fun u W2 H2 e2 G2 r2 => ?_
    obtain ⟨rfl, hM⟩ := excOf_at h3
    obtain ⟨dx, hH, hx⟩ := G2.excAt hM
    cases dx with
    | some d =>
      exact absurd rfl hx.1
    | none =>
      refine ⟨W2.α i, _, r2.2, hH, c, fun d hd hne => ?_⟩
      obtain ⟨e3, G3⟩ := G2.lay (o := .xd [(f, v)]) hd
      have e23 := (e1.trans e2).trans e3
      refine k _ _ e23 (G3.set hM (by intro q; cases q) (c' := .exc true nm' [(f, y)]) (o' := .ext (ExcO (W2.α i) (.ref (clOf K nm')) (some d) true)) ⟨some d, rfl, by simp, [(f, v)], upd_same, .cons ⟨rfl, (r1.up e2).up e3⟩ .nil⟩) σ (R.up e23)
  · have hh : (if fr = true ∧ nm' = nm ∧ fs.isEmpty = true then some (Out.nx γ, M2.set i (.exc true nm [(f, y)])) else none) = some (o, M') := hh
    rw [if_neg hc] at hh; cases hh
theorem se_xfld {nms : List Str} {f : Str} {e : EF} (c : ∀ nm ∈ nms, XCls K (clOf K nm) ∧ XSet K (clOf K nm) f) (a : SE K ta e) : SE K (tXFld K ta f) (fXFld nms f e) := by
  intro γ M x M' hh W H σ Q G R k
  obtain ⟨⟨y, M1⟩, h1, hh⟩ := bindE hh
  obtain ⟨⟨i, fr, nm, fs⟩, h2, hh⟩ := bindE hh
  by_cases hn : nm ∈ nms
  · have hh : (if nm ∈ nms then (fs.lookup f).bind fun v => some (v, M1) else none) = some (x, M') := hh
    rw [if_pos hn] at hh
    obtain ⟨v, h3, hh⟩ := bindE hh
    cases hh
    refine a _ _ _ _ h1 W H σ _ G R fun u W1 H1 e1 G1 r1 => ?_
    obtain ⟨rfl, hM⟩ := excOf_at h2
    obtain ⟨dx, hH, hx⟩ := G1.excAt hM
    cases dx with
    | none => rw [show fs = [] from hx] at h3; cases h3
    | some d =>
      obtain ⟨_, us, w1, w2⟩ := hx
      obtain ⟨w, hw, rw'⟩ := look_pair w2 h3
      exact ⟨_, _, d, fr, us, w, r1.2, hH, G1.fh _ _ w1, (c nm hn).1, (c nm hn).2, hw, k w W1 H1 e1 G1 rw'⟩
  · have hh : (if nm ∈ nms then (fs.lookup f).bind fun v => some (v, M1) else none) = some (x, M') := hh
    rw [if_neg hn] at hh; cases hh
end
end L2

end

section
set_option Elab.async false
set_option linter.all false
set_option maxRecDepth 100000
set_option maxHeartbeats 4000000
namespace L2
open PySem PySem.Spec PyProof.Rows
/-! # the judgements: exceptions made, their fields -/
structure ICalleeX (P : Program) (w : World) (K : PySem.W.Frag) (mg : Str → Option Value) (base : Heap) (k : Nat) (nm : Str) (ps : List Str) (sp : Sp) : Prop where
  ex : ∃ f fd, FnOk P w K mg base CX0 k f fd ps sp ∧ MkX K (clOf K nm) f ∧ Binds K fd ps []
section
variable {P : Program} {w : World} {K : PySem.W.Frag} {mg : Str → Option Value} {base : Heap}
theorem MDef.okIX {nm qual : Str} {st : Stmt} {N ps : List Str} {k : Nat} {b : SF} (D : MDef K nm "__init__" qual st) (hm : excT K (clOf K nm) = true) (hk : PySem.W.keepIn K (.ref (clOf K nm)) = true) (S : FnScope N ps (defScope st))
    (hb : ∀ (kV doc pm : Value) (an : Option Addr) (cdv ct : Value) (us : List Value), us.length = ps.length → bindArgs (PySem.W.fnOf "__init__" qual (defArgs st) (defBody st) (defScope st) .none kV doc pm an cdv ct) ⟨us, []⟩ = pure (ps.zip us))
    (hbody : ∀ (f : Addr) (cdv : Value) (A : Around) (outer : List Env) (s : Shared) (H : Hp) (E : XK), Room k (A.deeper (envOfC qual (defScope st) s.heap.objs.size f cdv)) →
      ML K (fun _ : Unit => (cxOf CX0 P w K mg base N qual (defScope st) f cdv A outer s H E).nox) (defBody st) b) : ICalleeX P w K mg base (k + 1) nm ps (spM K (fnF ps.length N.length b)) := by
  obtain ⟨f, fd, F, h1, h2⟩ := D.ex
  exact ⟨f, fd, F.okQ S hbody, ⟨hm, h1, h2, hk⟩, F.binds hb⟩
theorem mdef_mk {nm m qual : Str} {st : Stmt} {C f : Addr} {oc : Value} {od an : Option Addr} {osl : Array (Option Value)} {kV doc pm cdv ct : Value} (hC : clOf K nm = C) (hf : PySem.W.findIn K (.ref C) m = some (some (.ref f)))
    (l : K.lookup f = some ⟨oc, od, .func (PySem.W.fnOf m qual (defArgs st) (defBody st) (defScope st) .none kV doc pm an cdv ct), osl⟩) (c : PySem.W.codeIn K cdv qual = true) (k : PySem.W.keepIn K (.ref f) = true) (fn : PySem.W.isFn K (.ref f) = true) : MDef K nm m qual st :=
  ⟨f, _, fun_mk l c k, by rw [hC]; exact hf, fn⟩
end
section
variable {ι : Type} {K : PySem.W.Frag} {X : ι → Cx} {EE : ι → St → XK} {e o a b : Expr} {es : List Expr} {f g : EF} {fa : AF} {pos : Pos}
theorem me_makeX0 {nm : Str} {p : Pos} (hK : ∀ i, (X i).K = K) (hm : ∀ i, (X i).mg nm = some (.ref (clOf K nm))) (q : PySem.W.excIn K (clOf K nm) bmV "ValueError.__new__" = true) (hk : PySem.W.keepIn K (.ref (clOf K nm)) = true) (hg : ∀ i, Gl (X i) nm := by intro _; rfl) (hd : (nm == ("__debug__" : Str)) = false := by decide) :
    ME K X (.Call (.Name nm p) [] [] pos) (fMakeX0 nm) :=
  ⟨_, fun i => pe_makeX0 (by rw [hK i]; exact q) (by rw [hK i]; exact hk) (hg i) (hm i) hd, se_makeX0⟩
theorem me_makeX {k : Nat} {nm : Str} {ps : List Str} {F : FN} {p : Pos} (C : ∀ i, ICalleeX (X i).prog (X i).w (X i).K (X i).mg (X i).base k nm ps (spM K F)) (hK : ∀ i, (X i).K = K) (hm : ∀ i, (X i).mg nm = some (.ref (clOf K nm))) (hr : ∀ i, Room (k + 1) (X i).A) (y : MA K X (e :: es) fa) (hg : ∀ i, Gl (X i) nm := by intro _; rfl) (hd : (nm == ("__debug__" : Str)) = false := by decide) :
    ME K X (.Call (.Name nm p) (e :: es) [] pos) (fMakeX nm F fa) := by
  obtain ⟨u, y1, y2⟩ := y.ex
  refine ⟨_, fun i => ?_, se_makeX y2⟩
  obtain ⟨f, fd, F', M, B⟩ := (C i).ex
  have hmi : (X i).mg nm = some (.ref (clOf (X i).K nm)) := by rw [hK i]; exact hm i
  have := pe_makeX M F' (hr i) (hg i) hmi B (y1 i) hd (y.st.1 _) (y.st.2.plain _ _) (p := p) (pos := pos)
  rw [hK i] at this
  exact this
theorem ms_xfld {nm fl : Str} {pos' : Pos} (hK : ∀ i, (X i).K = K) (hc : XSet K (clOf K nm) fl) (x : ME K X o f) (y : ME K X e g) (hs : ∀ i, swapsWith e (some (.Attribute o fl pos')) pos.line (X i).env = pure false := by intro _; rfl) : MS K X (.Assign [.Attribute o fl pos'] e pos) (sXFldF nm fl f g) := by
  obtain ⟨t, x1, x2⟩ := x.ex; obtain ⟨u, y1, y2⟩ := y.ex
  refine ⟨_, fun i => ?_, ss_xfld hc x2 y2⟩
  have := ps_xfld (x1 i) (y1 i) (hs i)
  rw [hK i] at this
  exact this
theorem me_xfld {nms : List Str} {fl : Str} (hK : ∀ i, (X i).K = K) (hc : ∀ nm ∈ nms, XCls K (clOf K nm) ∧ XSet K (clOf K nm) fl) (x : ME K X o f) (hb : ∀ env : Env, attributeBase o fl env (eval o env) = eval o env := by intro _; rfl) : ME K X (.Attribute o fl pos) (fXFld nms fl f) := by
  obtain ⟨t, x1, x2⟩ := x.ex
  refine ⟨_, fun i => ?_, se_xfld hc x2⟩
  have := pe_xfld (x1 i) (hb _) (pos := pos)
  rw [hK i] at this
  exact this
theorem taba_nil {fl : Str} : ∀ nm ∈ ([] : List Str), XCls K (clOf K nm) ∧ XSet K (clOf K nm) fl := fun _ h => absurd h (by simp)
theorem taba_cons {fl a : Str} {l : List Str} (x : XCls K (clOf K a)) (h : XSet K (clOf K a) fl) (r : ∀ nm ∈ l, XCls K (clOf K nm) ∧ XSet K (clOf K nm) fl) : ∀ nm ∈ a :: l, XCls K (clOf K nm) ∧ XSet K (clOf K nm) fl := fun p hp => by
  rcases List.mem_cons.mp hp with rfl | z
  · exact ⟨x, h⟩
  · exact r p z
end
/-! ### lists of cells put together, lists repeated -/
section
variable {K : PySem.W.Frag}
def catC : F2 := fun x y M => (lstOf M x).bind fun xs => (lstOf M y).bind fun ys => if xs.length + ys.length ≤ sizeLine then some (.c M.length, M ++ [.lst (xs ++ ys)]) else none
theorem p2_catC : P2 K (rCatS K) catC := by
  intro x y M z M' h W H v u Q G rx ry k
  obtain ⟨xs, h1, h⟩ := bindE h
  obtain ⟨ys, h2, h⟩ := bindE h
  by_cases hl : xs.length + ys.length ≤ sizeLine
  · rw [if_pos hl] at h
    cases h
    obtain ⟨p, vs, rfl, hp, hr⟩ := lstOf_rep G h1 rx
    obtain ⟨q, us, rfl, hq, hs⟩ := lstOf_rep G h2 ry
    refine ⟨p, q, vs, us, rfl, rfl, hp, hq, by rw [← Paired.len hr, ← Paired.len hs]; exact hl, fun l hl => ?_⟩
    exact k _ (W.more l) _ (W.ext_more l) (G.new hl (c := .lst (xs ++ ys)) (o := .lst (vs ++ us)) (Paired.app hr hs)) G.newV
  · rw [if_neg hl] at h; cases h
def addY : F2 := orF2 addX catC
theorem p2_addY : P2 K (fun x y H Q => rAddX K x y H Q ∨ rCatS K x y H Q) addY := P2.or p2_addX p2_catC
theorem q_addY {ι : Type} {X : ι → Cx} (hK : ∀ i, (X i).K = K) : Q2 K X (binaryOp .Add) addY := ⟨_, fun i => (kAdd (hK i)).or (show OpR (X i) (binaryOp .Add) (rCatS K) by have := op_catS (X := X i); rw [hK i] at this; exact this), p2_addY⟩
/-- xs * n -/
def repD (ds : List PyData) (n : Nat) : List PyData := (List.replicate n ds).flatten
def rMulL (K : PySem.W.Frag) : R2 := fun x y H Q => ∃ (l : Addr) (vs : List V) (i : Int), x = .ref l ∧ y = .int i ∧ H l = some (.lst vs) ∧ 0 ≤ i ∧ i < 2 ^ 62 ∧ vs.length * i.toNat ≤ sizeLine ∧ ∀ p, H p = none → Q (.ref p) (upd H p (.lst (List.replicate i.toNat vs).flatten))
theorem foldl_app {α : Type} : ∀ (l : List (List α)) (a : List α), (l.map List.toArray).foldl (fun x1 x2 => x1 ++ x2) a.toArray = (a ++ l.flatten).toArray
  | [], a => by simp
  | x :: l, a => by
    rw [List.map_cons, List.foldl_cons]
    have : a.toArray ++ x.toArray = (a ++ x).toArray := by simp
    rw [this, foldl_app l (a ++ x), List.flatten_cons, List.append_assoc]
theorem vals_rep {vs : List V} {us : List Value} (r : Vals vs us) : ∀ n : Nat, Vals (List.replicate n vs).flatten (List.replicate n us).flatten
  | 0 => .nil
  | n + 1 => by rw [List.replicate_succ, List.replicate_succ, List.flatten_cons, List.flatten_cons]; exact r.append (vals_rep r n)
theorem op_mulL {X : Cx} : OpR X (binaryOp .Mult) (rMulL X.K) := by
  intro pins s σ H x y u v Q I rx ry h
  obtain ⟨l, vs, i, rfl, rfl, hl, i0, i1, hz, q⟩ := h
  cases (show u = Value.ref l from rx)
  obtain ⟨t, rfl⟩ := (show ∃ t, v = Value.int i t from ry)
  obtain ⟨hlen, its, n, rv, hg⟩ := (show ObjOk X.prog X.w H s.heap l (.lst vs) from I.hok l _ hl)
  obtain ⟨m, F⟩ := I.fr
  have N : News X.base X.env.locals s.heap (allNews X.base s.heap X.env.locals) := news_all
  have hsz : its.toArray.size * i.toNat ≤ 2 ^ 24 := by
    rw [List.size_toArray, ← rv.length]
    have : sizeLine = 2 ^ 24 := by rw [sizeLine_eq]
    omega
  refine PyProof.Rows.mul_list F N hg (by omega) (by omega) hsz fun h' F' N' => ?_
  have kp : ∀ b o, b ≠ X.env.locals → s.heap.get? b = some o → h'.get? b = some o := fun b o hb e => by
    cases z : X.base.get? b with
    | some v =>
      have := I.bk b v z
      rw [e] at this; cases this
      exact F'.keep b _ z
    | none => exact (N' (b, o) (List.mem_cons_of_mem _ (mem_allNews hb z e))).1
  have hnone : s.heap.get? s.heap.objs.size = none := Heap.get?_none_of_le (Nat.le_refl _)
  refine ⟨.ref s.heap.objs.size, upd H s.heap.objs.size (.lst (List.replicate i.toNat vs).flatten), ?_, rfl, q _ (I.hok.fresh (Nat.le_refl _))⟩
  refine I.laidL kp (fun m' hm' => ?_) hnone ⟨?_, (List.replicate i.toNat its).flatten, 0, vals_rep rv _, ?_⟩
  · rw [← Ns_same F.ns hm']; exact F'.ns
  · rw [len_rep, Nat.mul_comm]; exact hz
  · have h1 := (N' _ List.mem_cons_self).1
    rw [h1]
    have e : List.foldl (fun x1 x2 => x1 ++ x2) #[] (List.replicate (if its.toArray.isEmpty = true then 0 else i.toNat) its.toArray) = ((List.replicate i.toNat its).flatten).toArray := by
      by_cases ie : its = []
      · subst ie
        have : (List.replicate i.toNat ([] : List Value)).flatten = [] := by
          generalize i.toNat = k
          induction k with
          | zero => rfl
          | succ k ih => rw [List.replicate_succ, List.flatten_cons, ih]; rfl
        rw [this]
        rfl
      · have : its.toArray.isEmpty = false := by cases its with | nil => exact absurd rfl ie | cons _ _ => rfl
        rw [this, if_neg Bool.false_ne_true]
        have := foldl_app (List.replicate i.toNat its) []
        rw [List.map_replicate] at this
        simpa using this
    rw [e]
def mulL : F2 := fun x y M => match x, y with
  | .c j, .d (.int i) => match M[j]? with
    | some (.lst xs) => (allD xs).bind fun ds => if 0 ≤ i ∧ i < 2 ^ 62 ∧ ds.length * i.toNat ≤ sizeLine then some (.d (.list (repD ds i.toNat)), M) else none
    | _ => none
  | _, _ => none
end
end L2

end

section
set_option Elab.async false
set_option linter.all false
set_option maxRecDepth 100000
set_option maxHeartbeats 4000000
namespace L2
open PySem PySem.Spec PyProof.Rows
section
variable {K : PySem.W.Frag}
theorem repAll_rep {H : Hp} {as : List PyData} {vs : List V} (h : RepAll K H as vs) : ∀ n : Nat, RepAll K H (repD as n) (List.replicate n vs).flatten
  | 0 => by rfl
  | n + 1 => by
    unfold repD
    rw [List.replicate_succ, List.replicate_succ, List.flatten_cons, List.flatten_cons]
    exact RepAll.app h (repAll_rep h n)
theorem p2_mulL : P2 K (rMulL K) mulL := by
  intro x y M z M' h W H v u Q G rx ry k
  unfold mulL at h
  split at h
  · rename_i j i
    split at h
    · rename_i xs hx
      obtain ⟨ds, h3, h⟩ := bindE h
      by_cases hc : 0 ≤ i ∧ i < 2 ^ 62 ∧ ds.length * i.toNat ≤ sizeLine
      · rw [if_pos hc] at h
        cases h
        obtain ⟨i0, i1, hz⟩ := hc
        obtain ⟨us, hv, hr⟩ := G.lstAt hx
        have el := allD_len h3
        refine ⟨_, us, i, rx.2, ry, hv, i0, i1, by rw [← Paired.len hr, ← el]; exact hz, fun l hl => ?_⟩
        obtain ⟨e2, G2⟩ := G.lay (o := .lst (List.replicate i.toNat us).flatten) hl
        exact k _ _ _ e2 G2 ⟨l, _, rfl, SqL.of upd_same, RepAll.same e2.ff _ _ (repAll_rep (repAll_of h3 hr) _)⟩
      · rw [if_neg hc] at h; cases h
    · cases h
  · cases h
def mulY : F2 := orF2 mulI mulL
theorem q_mulY {ι : Type} {X : ι → Cx} (hK : ∀ i, (X i).K = K) : Q2 K X (binaryOp .Mult) mulY := ⟨_, fun i => op_mulA.or (show OpR (X i) (binaryOp .Mult) (rMulL K) by have := op_mulL (X := X i); rw [hK i] at this; exact this), P2.or p2_mul p2_mulL⟩
def ktAll (K : PySem.W.Frag) (c : Value) (tab : List (Str × Bool)) : Bool := tab.all fun p => match PySem.W.kitOne K (.ref (clOf K p.1)) c with
  | some b => b == p.2
  | none => false
theorem tabk_of {c : Value} {tab : List (Str × Bool)} {ns : List Str} (hx : ∀ nm ∈ ns, XC K (clOf K nm)) (h : ktAll K c tab = true) (e : tab.map Prod.fst = ns) : ∀ p ∈ tab, XC K (clOf K p.1) ∧ PySem.W.kitOne K (.ref (clOf K p.1)) c = some p.2 := by
  intro p hp
  refine ⟨hx _ (by rw [← e]; exact List.mem_map_of_mem hp), ?_⟩
  have := List.all_eq_true.mp h p hp
  split at this
  · rename_i b hb
    rw [hb, eq_of_beq this]
  · cases this
theorem xcs_nil : ∀ nm ∈ ([] : List Str), XC K (clOf K nm) := fun _ h => absurd h (by simp)
theorem xcs_cons {a : Str} {l : List Str} (x : XC K (clOf K a)) (r : ∀ nm ∈ l, XC K (clOf K nm)) : ∀ nm ∈ a :: l, XC K (clOf K nm) := fun p hp => by
  rcases List.mem_cons.mp hp with rfl | z
  · exact x
  · exact r p z
end
end L2

end

section
set_option Elab.async false
set_option linter.all false
set_option maxRecDepth 100000
set_option maxHeartbeats 4000000
noncomputable section
namespace Q90
open PySem PySem.Spec PyProof.Rows L2
def top (i : Nat) : Stmt := PySem.Challenge.pw_cutstree_k90_classes.main.body.getD i (.Pass ⟨0, 0, 0, 0⟩)

def TB_NoTie : List (Str × Bool) := [("NoWeight", false), ("NoPlace", false), ("NoTie", true), ("TooMany", false), ("NoSide", false), ("NoFlow", false), ("NotGreatest", false), ("NoTree", false), ("OnePlace", false), ("InPieces", false), ("NoChart", false), ("NoGroups", false), ("NoDemand", false), ("NoLine", false), ("NotThere", false)]
def TB_NoPlace : List (Str × Bool) := [("NoWeight", false), ("NoPlace", true), ("NoTie", false), ("TooMany", false), ("NoSide", false), ("NoFlow", false), ("NotGreatest", false), ("NoTree", false), ("OnePlace", false), ("InPieces", false), ("NoChart", false), ("NoGroups", false), ("NoDemand", false), ("NoLine", false), ("NotThere", false)]
def TB_NoWeight : List (Str × Bool) := [("NoWeight", true), ("NoPlace", false), ("NoTie", false), ("TooMany", false), ("NoSide", false), ("NoFlow", false), ("NotGreatest", false), ("NoTree", false), ("OnePlace", false), ("InPieces", false), ("NoChart", false), ("NoGroups", false), ("NoDemand", false), ("NoLine", false), ("NotThere", false)]
def TB_NoFlow : List (Str × Bool) := [("NoWeight", false), ("NoPlace", false), ("NoTie", false), ("TooMany", false), ("NoSide", false), ("NoFlow", true), ("NotGreatest", false), ("NoTree", false), ("OnePlace", false), ("InPieces", false), ("NoChart", false), ("NoGroups", false), ("NoDemand", false), ("NoLine", false), ("NotThere", false)]
def TB_NoSide : List (Str × Bool) := [("NoWeight", false), ("NoPlace", false), ("NoTie", false), ("TooMany", false), ("NoSide", true), ("NoFlow", false), ("NotGreatest", false), ("NoTree", false), ("OnePlace", false), ("InPieces", false), ("NoChart", false), ("NoGroups", false), ("NoDemand", false), ("NoLine", false), ("NotThere", false)]
def TB_TooMany : List (Str × Bool) := [("NoWeight", false), ("NoPlace", false), ("NoTie", false), ("TooMany", true), ("NoSide", false), ("NoFlow", false), ("NotGreatest", false), ("NoTree", false), ("OnePlace", false), ("InPieces", false), ("NoChart", false), ("NoGroups", false), ("NoDemand", false), ("NoLine", false), ("NotThere", false)]
def TB_OnePlace : List (Str × Bool) := [("NoWeight", false), ("NoPlace", false), ("NoTie", false), ("TooMany", false), ("NoSide", false), ("NoFlow", false), ("NotGreatest", false), ("NoTree", false), ("OnePlace", true), ("InPieces", false), ("NoChart", false), ("NoGroups", false), ("NoDemand", false), ("NoLine", false), ("NotThere", false)]
def TB_NoTree : List (Str × Bool) := [("NoWeight", false), ("NoPlace", false), ("NoTie", false), ("TooMany", false), ("NoSide", false), ("NoFlow", false), ("NotGreatest", false), ("NoTree", true), ("OnePlace", false), ("InPieces", false), ("NoChart", false), ("NoGroups", false), ("NoDemand", false), ("NoLine", false), ("NotThere", false)]
def TB_NotGreatest : List (Str × Bool) := [("NoWeight", false), ("NoPlace", false), ("NoTie", false), ("TooMany", false), ("NoSide", false), ("NoFlow", false), ("NotGreatest", true), ("NoTree", false), ("OnePlace", false), ("InPieces", false), ("NoChart", false), ("NoGroups", false), ("NoDemand", false), ("NoLine", false), ("NotThere", false)]
def TB_NoGroups : List (Str × Bool) := [("NoWeight", false), ("NoPlace", false), ("NoTie", false), ("TooMany", false), ("NoSide", false), ("NoFlow", false), ("NotGreatest", false), ("NoTree", false), ("OnePlace", false), ("InPieces", false), ("NoChart", false), ("NoGroups", true), ("NoDemand", false), ("NoLine", false), ("NotThere", false)]
def TB_NoChart : List (Str × Bool) := [("NoWeight", false), ("NoPlace", false), ("NoTie", false), ("TooMany", false), ("NoSide", false), ("NoFlow", false), ("NotGreatest", false), ("NoTree", false), ("OnePlace", false), ("InPieces", false), ("NoChart", true), ("NoGroups", false), ("NoDemand", false), ("NoLine", false), ("NotThere", false)]
def TB_InPieces : List (Str × Bool) := [("NoWeight", false), ("NoPlace", false), ("NoTie", false), ("TooMany", false), ("NoSide", false), ("NoFlow", false), ("NotGreatest", false), ("NoTree", false), ("OnePlace", false), ("InPieces", true), ("NoChart", false), ("NoGroups", false), ("NoDemand", false), ("NoLine", false), ("NotThere", false)]
def TB_NotThere : List (Str × Bool) := [("NoWeight", false), ("NoPlace", false), ("NoTie", false), ("TooMany", false), ("NoSide", false), ("NoFlow", false), ("NotGreatest", false), ("NoTree", false), ("OnePlace", false), ("InPieces", false), ("NoChart", false), ("NoGroups", false), ("NoDemand", false), ("NoLine", false), ("NotThere", true)]
def TB_NoLine : List (Str × Bool) := [("NoWeight", false), ("NoPlace", false), ("NoTie", false), ("TooMany", false), ("NoSide", false), ("NoFlow", false), ("NotGreatest", false), ("NoTree", false), ("OnePlace", false), ("InPieces", false), ("NoChart", false), ("NoGroups", false), ("NoDemand", false), ("NoLine", true), ("NotThere", false)]
def TB_NoDemand : List (Str × Bool) := [("NoWeight", false), ("NoPlace", false), ("NoTie", false), ("TooMany", false), ("NoSide", false), ("NoFlow", false), ("NotGreatest", false), ("NoTree", false), ("OnePlace", false), ("InPieces", false), ("NoChart", false), ("NoGroups", false), ("NoDemand", true), ("NoLine", false), ("NotThere", false)]
def TB_ValueError : List (Str × Bool) := [("NoWeight", true), ("NoPlace", true), ("NoTie", true), ("TooMany", true), ("NoSide", true), ("NoFlow", true), ("NotGreatest", true), ("NoTree", true), ("OnePlace", true), ("InPieces", true), ("NoChart", true), ("NoGroups", true), ("NoDemand", true), ("NoLine", true), ("NotThere", true)]
def TB_CutError : List (Str × Bool) := [("NoWeight", true), ("NoPlace", true), ("NoTie", true), ("TooMany", true), ("NoSide", true), ("NoFlow", true), ("NotGreatest", true), ("NoTree", true), ("OnePlace", true), ("InPieces", true), ("NoChart", true), ("NoGroups", true), ("NoDemand", true), ("NoLine", true), ("NotThere", true)]
abbrev st_TooMany__init : Stmt := inClass (top 5) 0
theorem sc_TooMany__init : FnScope ["self", "most"] ["self", "most"] (defScope st_TooMany__init) := ⟨rfl, rfl, rfl, by decide +kernel, rfl, by decide +kernel, by decide +kernel⟩
def m_TooMany__init : SF := (sXFldF "TooMany" "most" (fVar 0) (fVar 1))
def F_TooMany__init : FN := fnF 2 2 m_TooMany__init
abbrev st_NoTie__init : Stmt := inClass (top 4) 0
theorem sc_NoTie__init : FnScope ["self", "at"] ["self", "at"] (defScope st_NoTie__init) := ⟨rfl, rfl, rfl, by decide +kernel, rfl, by decide +kernel, by decide +kernel⟩
def m_NoTie__init : SF := (sXFldF "NoTie" "at" (fVar 0) (fVar 1))
def F_NoTie__init : FN := fnF 2 2 m_NoTie__init
abbrev st_NoLine__init : Stmt := inClass (top 15) 0
theorem sc_NoLine__init : FnScope ["self", "at"] ["self", "at"] (defScope st_NoLine__init) := ⟨rfl, rfl, rfl, by decide +kernel, rfl, by decide +kernel, by decide +kernel⟩
def m_NoLine__init : SF := (sXFldF "NoLine" "at" (fVar 0) (fVar 1))
def F_NoLine__init : FN := fnF 2 2 m_NoLine__init
abbrev st__law_made : Stmt := top 19
theorem sc__law_made : FnScope ["_law_number", "_law_found"] ["_law_number"] (defScope st__law_made) := ⟨rfl, rfl, rfl, by decide +kernel, rfl, by decide +kernel, by decide +kernel⟩
def m__law_made : SF := (sSeq (sAsg (fNew (fCons (fMakeX0 "NoWeight") (fCons (fMakeX0 "NoPlace") (fCons (fMakeX "NoTie" F_NoTie__init (fCons (fVar 0) fNil)) (fCons (fMakeX "TooMany" F_TooMany__init (fCons (fVar 0) fNil)) (fCons (fMakeX0 "NoSide") (fCons (fMakeX0 "NoFlow") (fCons (fMakeX0 "NotGreatest") (fCons (fMakeX0 "NoTree") fNil))))))))) (hName 1)) 
  (sRet (fOp addY (fVar 1) (fNew (fCons (fMakeX0 "OnePlace") (fCons (fMakeX0 "InPieces") (fCons (fMakeX0 "NoChart") (fCons (fMakeX0 "NoGroups") (fCons (fMakeX0 "NoDemand") (fCons (fMakeX "NoLine" F_NoLine__init (fCons (fVar 0) fNil)) (fCons (fMakeX0 "NotThere") fNil)))))))))))
def F__law_made : FN := fnF 1 2 m__law_made
abbrev st__law_of : Stmt := top 18
theorem sc__law_of : FnScope ["_law_error", "_law_found"] ["_law_error"] (defScope st__law_of) := ⟨rfl, rfl, rfl, by decide +kernel, rfl, by decide +kernel, by decide +kernel⟩
def m__law_of : SF := (sSeq (sAsg (fLst (fCons (fIsiX TB_NoWeight (some false) (fVar 0)) (fCons (fIsiX TB_NoPlace (some false) (fVar 0)) (fCons (fIsiX TB_NoTie (some false) (fVar 0)) fNil)))) (hName 1)) 
  (sSeq (sAsg (fOp addX (fVar 1) (fLst (fCons (fIsiX TB_TooMany (some false) (fVar 0)) (fCons (fIsiX TB_NoSide (some false) (fVar 0)) (fCons (fIsiX TB_NoFlow (some false) (fVar 0)) fNil))))) (hName 1)) 
  (sSeq (sAsg (fOp addX (fVar 1) (fLst (fCons (fIsiX TB_NotGreatest (some false) (fVar 0)) (fCons (fIsiX TB_NoTree (some false) (fVar 0)) (fCons (fIsiX TB_OnePlace (some false) (fVar 0)) fNil))))) (hName 1)) 
  (sSeq (sAsg (fOp addX (fVar 1) (fLst (fCons (fIsiX TB_InPieces (some false) (fVar 0)) (fCons (fIsiX TB_NoChart (some false) (fVar 0)) (fCons (fIsiX TB_NoGroups (some false) (fVar 0)) fNil))))) (hName 1)) 
  (sRet (fOp addX (fVar 1) (fLst (fCons (fIsiX TB_NoDemand (some false) (fVar 0)) (fCons (fIsiX TB_NoLine (some false) (fVar 0)) (fCons (fIsiX TB_NotThere (some false) (fVar 0)) fNil))))))))))
def F__law_of : FN := fnF 1 2 m__law_of
abbrev st_law : Stmt := top 20
theorem sc_law : FnScope ["_law_script", "_law_first", "_law_number", "_law_some", "_law_at"] ["_law_script"] (defScope st_law) := ⟨rfl, rfl, rfl, by decide +kernel, rfl, by decide +kernel, by decide +kernel⟩
def K_law_0 : EF := (fLst (fCons (fC (.int 7)) fNil))
theorem eK_law_0 (γ : Ga) (M : Sto) : K_law_0 γ M = some (.d (.list [(.int 7)]), M) := rfl
def C_law_0 : EF := (fLc [some 4, none] (fRng1 (fCons (fC (.int 15)) fNil)) (hName 1) gYes (fOp (eqX false) (fVar 1) (fVar 0)))
def L_law_0 : SF := (sSeq (sIf (gOr (gNot (gB (fIsiX TB_CutError (some false) (fOp ixF (fVar 3) (fVar 4))))) (gNot (gB (fIsiX TB_ValueError (some false) (fOp ixF (fVar 3) (fVar 4)))))) 
    (sRet (fC (.bool false))) 
    sNext) 
  (sIf (gB (fOp (eqX true) (fCall F__law_of (fCons (fOp ixF (fVar 3) (fVar 4)) fNil)) C_law_0)) 
    (sRet (fC (.bool false))) 
    sNext))
def L_law_1 : SF := (sSeq (sAsg (fCall F__law_made (fCons (fVar 2) fNil)) (hName 3)) 
  (sSeq (sFor (fRng1 (fCons (fC (.int 15)) fNil)) (hName 4) L_law_0) 
  (sIf (gB (fOp (eqX true) (fLst (fCons (fXFld ["NoTie", "NoLine"] "at" (fOp ixF (fVar 3) (fC (.int 2)))) (fCons (fXFld ["TooMany"] "most" (fOp ixF (fVar 3) (fC (.int 3)))) (fCons (fXFld ["NoTie", "NoLine"] "at" (fOp ixF (fVar 3) (fC (.int 13)))) fNil)))) (fOp mulY (fNew (fCons (fVar 2) fNil)) (fC (.int 3))))) 
    (sRet (fC (.bool false))) 
    sNext)))
def m_law : SF := (sSeq (sAsg (fOp modI (fOp ixF (fOp addX (fVar 0) K_law_0) (fC (.int 0))) (fOp powI (fC (.int 10)) (fC (.int 30)))) (hName 1)) 
  (sSeq (sFor (fItems (fLst (fCons (fVar 1) (fCons (fC (.int 0)) (fCons (fC (.int 40)) (fCons (fOp powI (fC (.int 10)) (fC (.int 30))) fNil)))))) (hName 2) L_law_1) 
  (sRet (fC (.bool true)))))
def F_law : FN := fnF 1 5 m_law
structure Txt (K : PySem.W.Frag) (mg : Str → Option Value) : Prop where
  hB : Free mg ["ValueError", "isinstance", "range"]
  m_NoWeight : mg "NoWeight" = some (.ref (clOf K "NoWeight"))
  xc_NoWeight : XC K (clOf K "NoWeight")
  m_NoPlace : mg "NoPlace" = some (.ref (clOf K "NoPlace"))
  xc_NoPlace : XC K (clOf K "NoPlace")
  m_NoTie : mg "NoTie" = some (.ref (clOf K "NoTie"))
  xc_NoTie : XC K (clOf K "NoTie")
  m_TooMany : mg "TooMany" = some (.ref (clOf K "TooMany"))
  xc_TooMany : XC K (clOf K "TooMany")
  m_NoSide : mg "NoSide" = some (.ref (clOf K "NoSide"))
  xc_NoSide : XC K (clOf K "NoSide")
  m_NoFlow : mg "NoFlow" = some (.ref (clOf K "NoFlow"))
  xc_NoFlow : XC K (clOf K "NoFlow")
  m_NotGreatest : mg "NotGreatest" = some (.ref (clOf K "NotGreatest"))
  xc_NotGreatest : XC K (clOf K "NotGreatest")
  m_NoTree : mg "NoTree" = some (.ref (clOf K "NoTree"))
  xc_NoTree : XC K (clOf K "NoTree")
  m_OnePlace : mg "OnePlace" = some (.ref (clOf K "OnePlace"))
  xc_OnePlace : XC K (clOf K "OnePlace")
  m_InPieces : mg "InPieces" = some (.ref (clOf K "InPieces"))
  xc_InPieces : XC K (clOf K "InPieces")
  m_NoChart : mg "NoChart" = some (.ref (clOf K "NoChart"))
  xc_NoChart : XC K (clOf K "NoChart")
  m_NoGroups : mg "NoGroups" = some (.ref (clOf K "NoGroups"))
  xc_NoGroups : XC K (clOf K "NoGroups")
  m_NoDemand : mg "NoDemand" = some (.ref (clOf K "NoDemand"))
  xc_NoDemand : XC K (clOf K "NoDemand")
  m_NoLine : mg "NoLine" = some (.ref (clOf K "NoLine"))
  xc_NoLine : XC K (clOf K "NoLine")
  m_NotThere : mg "NotThere" = some (.ref (clOf K "NotThere"))
  xc_NotThere : XC K (clOf K "NotThere")
  kg_NoTie : ktAll K (.ref (clOf K "NoTie")) TB_NoTie = true
  kn_NoTie : PySem.W.kitOne K (.type "NoneType") (.ref (clOf K "NoTie")) = some false
  kg_NoPlace : ktAll K (.ref (clOf K "NoPlace")) TB_NoPlace = true
  kn_NoPlace : PySem.W.kitOne K (.type "NoneType") (.ref (clOf K "NoPlace")) = some false
  kg_NoWeight : ktAll K (.ref (clOf K "NoWeight")) TB_NoWeight = true
  kn_NoWeight : PySem.W.kitOne K (.type "NoneType") (.ref (clOf K "NoWeight")) = some false
  kg_NoFlow : ktAll K (.ref (clOf K "NoFlow")) TB_NoFlow = true
  kn_NoFlow : PySem.W.kitOne K (.type "NoneType") (.ref (clOf K "NoFlow")) = some false
  kg_NoSide : ktAll K (.ref (clOf K "NoSide")) TB_NoSide = true
  kn_NoSide : PySem.W.kitOne K (.type "NoneType") (.ref (clOf K "NoSide")) = some false
  kg_TooMany : ktAll K (.ref (clOf K "TooMany")) TB_TooMany = true
  kn_TooMany : PySem.W.kitOne K (.type "NoneType") (.ref (clOf K "TooMany")) = some false
  kg_OnePlace : ktAll K (.ref (clOf K "OnePlace")) TB_OnePlace = true
  kn_OnePlace : PySem.W.kitOne K (.type "NoneType") (.ref (clOf K "OnePlace")) = some false
  kg_NoTree : ktAll K (.ref (clOf K "NoTree")) TB_NoTree = true
  kn_NoTree : PySem.W.kitOne K (.type "NoneType") (.ref (clOf K "NoTree")) = some false
  kg_NotGreatest : ktAll K (.ref (clOf K "NotGreatest")) TB_NotGreatest = true
  kn_NotGreatest : PySem.W.kitOne K (.type "NoneType") (.ref (clOf K "NotGreatest")) = some false
  kg_NoGroups : ktAll K (.ref (clOf K "NoGroups")) TB_NoGroups = true
  kn_NoGroups : PySem.W.kitOne K (.type "NoneType") (.ref (clOf K "NoGroups")) = some false
  kg_NoChart : ktAll K (.ref (clOf K "NoChart")) TB_NoChart = true
  kn_NoChart : PySem.W.kitOne K (.type "NoneType") (.ref (clOf K "NoChart")) = some false
  kg_InPieces : ktAll K (.ref (clOf K "InPieces")) TB_InPieces = true
  kn_InPieces : PySem.W.kitOne K (.type "NoneType") (.ref (clOf K "InPieces")) = some false
  kg_NotThere : ktAll K (.ref (clOf K "NotThere")) TB_NotThere = true
  kn_NotThere : PySem.W.kitOne K (.type "NoneType") (.ref (clOf K "NotThere")) = some false
  kg_NoLine : ktAll K (.ref (clOf K "NoLine")) TB_NoLine = true
  kn_NoLine : PySem.W.kitOne K (.type "NoneType") (.ref (clOf K "NoLine")) = some false
  kg_NoDemand : ktAll K (.ref (clOf K "NoDemand")) TB_NoDemand = true
  kn_NoDemand : PySem.W.kitOne K (.type "NoneType") (.ref (clOf K "NoDemand")) = some false
  kp_NoTree : PySem.W.keepIn K (.ref (clOf K "NoTree")) = true
  q_NoTree : PySem.W.excIn K (clOf K "NoTree") bmV "ValueError.__new__" = true
  kp_NotGreatest : PySem.W.keepIn K (.ref (clOf K "NotGreatest")) = true
  q_NotGreatest : PySem.W.excIn K (clOf K "NotGreatest") bmV "ValueError.__new__" = true
  kp_NoFlow : PySem.W.keepIn K (.ref (clOf K "NoFlow")) = true
  q_NoFlow : PySem.W.excIn K (clOf K "NoFlow") bmV "ValueError.__new__" = true
  kp_NoSide : PySem.W.keepIn K (.ref (clOf K "NoSide")) = true
  q_NoSide : PySem.W.excIn K (clOf K "NoSide") bmV "ValueError.__new__" = true
  kp_TooMany : PySem.W.keepIn K (.ref (clOf K "TooMany")) = true
  kp_NoTie : PySem.W.keepIn K (.ref (clOf K "NoTie")) = true
  kp_NoPlace : PySem.W.keepIn K (.ref (clOf K "NoPlace")) = true
  q_NoPlace : PySem.W.excIn K (clOf K "NoPlace") bmV "ValueError.__new__" = true
  kp_NoWeight : PySem.W.keepIn K (.ref (clOf K "NoWeight")) = true
  q_NoWeight : PySem.W.excIn K (clOf K "NoWeight") bmV "ValueError.__new__" = true
  kp_NotThere : PySem.W.keepIn K (.ref (clOf K "NotThere")) = true
  q_NotThere : PySem.W.excIn K (clOf K "NotThere") bmV "ValueError.__new__" = true
  kp_NoLine : PySem.W.keepIn K (.ref (clOf K "NoLine")) = true
  kp_NoDemand : PySem.W.keepIn K (.ref (clOf K "NoDemand")) = true
  q_NoDemand : PySem.W.excIn K (clOf K "NoDemand") bmV "ValueError.__new__" = true
  kp_NoGroups : PySem.W.keepIn K (.ref (clOf K "NoGroups")) = true
  q_NoGroups : PySem.W.excIn K (clOf K "NoGroups") bmV "ValueError.__new__" = true
  kp_NoChart : PySem.W.keepIn K (.ref (clOf K "NoChart")) = true
  q_NoChart : PySem.W.excIn K (clOf K "NoChart") bmV "ValueError.__new__" = true
  kp_InPieces : PySem.W.keepIn K (.ref (clOf K "InPieces")) = true
  q_InPieces : PySem.W.excIn K (clOf K "InPieces") bmV "ValueError.__new__" = true
  kp_OnePlace : PySem.W.keepIn K (.ref (clOf K "OnePlace")) = true
  q_OnePlace : PySem.W.excIn K (clOf K "OnePlace") bmV "ValueError.__new__" = true
  kg_ValueError : ktAll K (.type "ValueError") TB_ValueError = true
  kn_ValueError : PySem.W.kitOne K (.type "NoneType") (.type "ValueError") = some false
  m_CutError : mg "CutError" = some (.ref (clOf K "CutError"))
  kg_CutError : ktAll K (.ref (clOf K "CutError")) TB_CutError = true
  kn_CutError : PySem.W.kitOne K (.type "NoneType") (.ref (clOf K "CutError")) = some false
  xs_NoLine_at : XSet K (clOf K "NoLine") "at"
  xs_NoTie_at : XSet K (clOf K "NoTie") "at"
  xs_TooMany_most : XSet K (clOf K "TooMany") "most"
  xt_NoTie : excT K (clOf K "NoTie") = true
  md_NoTie : MDef K "NoTie" "__init__" "NoTie.__init__" st_NoTie__init
  xt_TooMany : excT K (clOf K "TooMany") = true
  md_TooMany : MDef K "TooMany" "__init__" "TooMany.__init__" st_TooMany__init
  xt_NoLine : excT K (clOf K "NoLine") = true
  md_NoLine : MDef K "NoLine" "__init__" "NoLine.__init__" st_NoLine__init
  d__law_made : Def K mg "_law_made" st__law_made
  d__law_of : Def K mg "_law_of" st__law_of
  d_law : Def K mg "law" st_law
section
variable {P : Program} {w : World} {K : PySem.W.Frag} {mg : Str → Option Value} {base : Heap}
theorem xcs_all (T : Txt K mg) : ∀ nm ∈ (["NoWeight", "NoPlace", "NoTie", "TooMany", "NoSide", "NoFlow", "NotGreatest", "NoTree", "OnePlace", "InPieces", "NoChart", "NoGroups", "NoDemand", "NoLine", "NotThere"] : List Str), XC K (clOf K nm) := (xcs_cons T.xc_NoWeight (xcs_cons T.xc_NoPlace (xcs_cons T.xc_NoTie (xcs_cons T.xc_TooMany (xcs_cons T.xc_NoSide (xcs_cons T.xc_NoFlow (xcs_cons T.xc_NotGreatest (xcs_cons T.xc_NoTree (xcs_cons T.xc_OnePlace (xcs_cons T.xc_InPieces (xcs_cons T.xc_NoChart (xcs_cons T.xc_NoGroups (xcs_cons T.xc_NoDemand (xcs_cons T.xc_NoLine (xcs_cons T.xc_NotThere xcs_nil)))))))))))))))
theorem ok_TooMany__init (T : Txt K mg) : ICalleeX P w K mg base 1 "TooMany" ["self", "most"] (spM K F_TooMany__init) :=
  T.md_TooMany.okIX (N := ["self", "most"]) (ps := ["self", "most"]) (k := 0) (b := m_TooMany__init) T.xt_TooMany T.kp_TooMany sc_TooMany__init (fun _ _ _ _ _ _ us hl => match us, hl with | [_, _], _ => rfl) fun f cdv A outer s H E hr => 
    (ml_one (ms_xfld (nm := "TooMany") (fun _ => rfl) T.xs_TooMany_most (me_var 0) (me_var 1)))
theorem ok_NoTie__init (T : Txt K mg) : ICalleeX P w K mg base 1 "NoTie" ["self", "at"] (spM K F_NoTie__init) :=
  T.md_NoTie.okIX (N := ["self", "at"]) (ps := ["self", "at"]) (k := 0) (b := m_NoTie__init) T.xt_NoTie T.kp_NoTie sc_NoTie__init (fun _ _ _ _ _ _ us hl => match us, hl with | [_, _], _ => rfl) fun f cdv A outer s H E hr => 
    (ml_one (ms_xfld (nm := "NoTie") (fun _ => rfl) T.xs_NoTie_at (me_var 0) (me_var 1)))
theorem ok_NoLine__init (T : Txt K mg) : ICalleeX P w K mg base 1 "NoLine" ["self", "at"] (spM K F_NoLine__init) :=
  T.md_NoLine.okIX (N := ["self", "at"]) (ps := ["self", "at"]) (k := 0) (b := m_NoLine__init) T.xt_NoLine T.kp_NoLine sc_NoLine__init (fun _ _ _ _ _ _ us hl => match us, hl with | [_, _], _ => rfl) fun f cdv A outer s H E hr => 
    (ml_one (ms_xfld (nm := "NoLine") (fun _ => rfl) T.xs_NoLine_at (me_var 0) (me_var 1)))
theorem ok__law_made (T : Txt K mg) : Callee P w K mg base 3 "_law_made" ["_law_number"] (spM K F__law_made) :=
  T.d__law_made.okG (N := ["_law_number", "_law_found"]) (ps := ["_law_number"]) (k := 2) (b := m__law_made) sc__law_made (fun _ _ _ _ _ _ us hl => match us, hl with | [_], _ => rfl) fun f cdv A outer s H E hr => 
    (ml_cons (ms_set 1 (fun _ => sc__law_made.nd) (me_new (ma_cons (me_makeX0 (fun _ => rfl) (fun _ => T.m_NoWeight) T.q_NoWeight T.kp_NoWeight) (ma_cons (me_makeX0 (fun _ => rfl) (fun _ => T.m_NoPlace) T.q_NoPlace T.kp_NoPlace) (ma_cons (me_makeX (fun _ => ok_NoTie__init T) (fun _ => rfl) (fun _ => T.m_NoTie) (fun _ => hr.mono (by decide)) (ma_cons (me_var 0) ma_nil (fun _ => star_Name))) (ma_cons (me_makeX (fun _ => ok_TooMany__init T) (fun _ => rfl) (fun _ => T.m_TooMany) (fun _ => hr.mono (by decide)) (ma_cons (me_var 0) ma_nil (fun _ => star_Name))) (ma_cons (me_makeX0 (fun _ => rfl) (fun _ => T.m_NoSide) T.q_NoSide T.kp_NoSide) (ma_cons (me_makeX0 (fun _ => rfl) (fun _ => T.m_NoFlow) T.q_NoFlow T.kp_NoFlow) (ma_cons (me_makeX0 (fun _ => rfl) (fun _ => T.m_NotGreatest) T.q_NotGreatest T.kp_NotGreatest) (ma_cons (me_makeX0 (fun _ => rfl) (fun _ => T.m_NoTree) T.q_NoTree T.kp_NoTree) ma_nil (fun _ => star_Call)) (fun _ => star_Call)) (fun _ => star_Call)) (fun _ => star_Call)) (fun _ => star_Call)) (fun _ => star_Call)) (fun _ => star_Call)) (fun _ => star_Call)))) 
      (ml_one (ms_ret (me_op (q_addY (fun _ => rfl)) (me_var 1) (me_new (ma_cons (me_makeX0 (fun _ => rfl) (fun _ => T.m_OnePlace) T.q_OnePlace T.kp_OnePlace) (ma_cons (me_makeX0 (fun _ => rfl) (fun _ => T.m_InPieces) T.q_InPieces T.kp_InPieces) (ma_cons (me_makeX0 (fun _ => rfl) (fun _ => T.m_NoChart) T.q_NoChart T.kp_NoChart) (ma_cons (me_makeX0 (fun _ => rfl) (fun _ => T.m_NoGroups) T.q_NoGroups T.kp_NoGroups) (ma_cons (me_makeX0 (fun _ => rfl) (fun _ => T.m_NoDemand) T.q_NoDemand T.kp_NoDemand) (ma_cons (me_makeX (fun _ => ok_NoLine__init T) (fun _ => rfl) (fun _ => T.m_NoLine) (fun _ => hr.mono (by decide)) (ma_cons (me_var 0) ma_nil (fun _ => star_Name))) (ma_cons (me_makeX0 (fun _ => rfl) (fun _ => T.m_NotThere) T.q_NotThere T.kp_NotThere) ma_nil (fun _ => star_Call)) (fun _ => star_Call)) (fun _ => star_Call)) (fun _ => star_Call)) (fun _ => star_Call)) (fun _ => star_Call)) (fun _ => star_Call)))))))
theorem ok__law_of (T : Txt K mg) : Callee P w K mg base 1 "_law_of" ["_law_error"] (spM K F__law_of) :=
  T.d__law_of.okG (N := ["_law_error", "_law_found"]) (ps := ["_law_error"]) (k := 0) (b := m__law_of) sc__law_of (fun _ _ _ _ _ _ us hl => match us, hl with | [_], _ => rfl) fun f cdv A outer s H E hr => 
    (ml_cons (ms_set 1 (fun _ => sc__law_of.nd) (me_lst (ma_cons (me_isiX (tab := TB_NoWeight) (nn := some false) (c := (.ref (clOf K "NoWeight"))) (fun _ => rfl) (.own _) (cl_own (fun _ => T.m_NoWeight)) (tabk_of (xcs_all T) T.kg_NoWeight rfl) (nn_some T.kn_NoWeight) (me_var 0) (fun _ => star_Name) (fun _ => T.hB.of "isinstance")) (ma_cons (me_isiX (tab := TB_NoPlace) (nn := some false) (c := (.ref (clOf K "NoPlace"))) (fun _ => rfl) (.own _) (cl_own (fun _ => T.m_NoPlace)) (tabk_of (xcs_all T) T.kg_NoPlace rfl) (nn_some T.kn_NoPlace) (me_var 0) (fun _ => star_Name) (fun _ => T.hB.of "isinstance")) (ma_cons (me_isiX (tab := TB_NoTie) (nn := some false) (c := (.ref (clOf K "NoTie"))) (fun _ => rfl) (.own _) (cl_own (fun _ => T.m_NoTie)) (tabk_of (xcs_all T) T.kg_NoTie rfl) (nn_some T.kn_NoTie) (me_var 0) (fun _ => star_Name) (fun _ => T.hB.of "isinstance")) ma_nil (fun _ => star_Call)) (fun _ => star_Call)) (fun _ => star_Call)))) 
      (ml_cons (ms_set 1 (fun _ => sc__law_of.nd) (me_op (q_add (fun _ => rfl)) (me_var 1) (me_lst (ma_cons (me_isiX (tab := TB_TooMany) (nn := some false) (c := (.ref (clOf K "TooMany"))) (fun _ => rfl) (.own _) (cl_own (fun _ => T.m_TooMany)) (tabk_of (xcs_all T) T.kg_TooMany rfl) (nn_some T.kn_TooMany) (me_var 0) (fun _ => star_Name) (fun _ => T.hB.of "isinstance")) (ma_cons (me_isiX (tab := TB_NoSide) (nn := some false) (c := (.ref (clOf K "NoSide"))) (fun _ => rfl) (.own _) (cl_own (fun _ => T.m_NoSide)) (tabk_of (xcs_all T) T.kg_NoSide rfl) (nn_some T.kn_NoSide) (me_var 0) (fun _ => star_Name) (fun _ => T.hB.of "isinstance")) (ma_cons (me_isiX (tab := TB_NoFlow) (nn := some false) (c := (.ref (clOf K "NoFlow"))) (fun _ => rfl) (.own _) (cl_own (fun _ => T.m_NoFlow)) (tabk_of (xcs_all T) T.kg_NoFlow rfl) (nn_some T.kn_NoFlow) (me_var 0) (fun _ => star_Name) (fun _ => T.hB.of "isinstance")) ma_nil (fun _ => star_Call)) (fun _ => star_Call)) (fun _ => star_Call))))) 
      (ml_cons (ms_set 1 (fun _ => sc__law_of.nd) (me_op (q_add (fun _ => rfl)) (me_var 1) (me_lst (ma_cons (me_isiX (tab := TB_NotGreatest) (nn := some false) (c := (.ref (clOf K "NotGreatest"))) (fun _ => rfl) (.own _) (cl_own (fun _ => T.m_NotGreatest)) (tabk_of (xcs_all T) T.kg_NotGreatest rfl) (nn_some T.kn_NotGreatest) (me_var 0) (fun _ => star_Name) (fun _ => T.hB.of "isinstance")) (ma_cons (me_isiX (tab := TB_NoTree) (nn := some false) (c := (.ref (clOf K "NoTree"))) (fun _ => rfl) (.own _) (cl_own (fun _ => T.m_NoTree)) (tabk_of (xcs_all T) T.kg_NoTree rfl) (nn_some T.kn_NoTree) (me_var 0) (fun _ => star_Name) (fun _ => T.hB.of "isinstance")) (ma_cons (me_isiX (tab := TB_OnePlace) (nn := some false) (c := (.ref (clOf K "OnePlace"))) (fun _ => rfl) (.own _) (cl_own (fun _ => T.m_OnePlace)) (tabk_of (xcs_all T) T.kg_OnePlace rfl) (nn_some T.kn_OnePlace) (me_var 0) (fun _ => star_Name) (fun _ => T.hB.of "isinstance")) ma_nil (fun _ => star_Call)) (fun _ => star_Call)) (fun _ => star_Call))))) 
      (ml_cons (ms_set 1 (fun _ => sc__law_of.nd) (me_op (q_add (fun _ => rfl)) (me_var 1) (me_lst (ma_cons (me_isiX (tab := TB_InPieces) (nn := some false) (c := (.ref (clOf K "InPieces"))) (fun _ => rfl) (.own _) (cl_own (fun _ => T.m_InPieces)) (tabk_of (xcs_all T) T.kg_InPieces rfl) (nn_some T.kn_InPieces) (me_var 0) (fun _ => star_Name) (fun _ => T.hB.of "isinstance")) (ma_cons (me_isiX (tab := TB_NoChart) (nn := some false) (c := (.ref (clOf K "NoChart"))) (fun _ => rfl) (.own _) (cl_own (fun _ => T.m_NoChart)) (tabk_of (xcs_all T) T.kg_NoChart rfl) (nn_some T.kn_NoChart) (me_var 0) (fun _ => star_Name) (fun _ => T.hB.of "isinstance")) (ma_cons (me_isiX (tab := TB_NoGroups) (nn := some false) (c := (.ref (clOf K "NoGroups"))) (fun _ => rfl) (.own _) (cl_own (fun _ => T.m_NoGroups)) (tabk_of (xcs_all T) T.kg_NoGroups rfl) (nn_some T.kn_NoGroups) (me_var 0) (fun _ => star_Name) (fun _ => T.hB.of "isinstance")) ma_nil (fun _ => star_Call)) (fun _ => star_Call)) (fun _ => star_Call))))) 
      (ml_one (ms_ret (me_op (q_add (fun _ => rfl)) (me_var 1) (me_lst (ma_cons (me_isiX (tab := TB_NoDemand) (nn := some false) (c := (.ref (clOf K "NoDemand"))) (fun _ => rfl) (.own _) (cl_own (fun _ => T.m_NoDemand)) (tabk_of (xcs_all T) T.kg_NoDemand rfl) (nn_some T.kn_NoDemand) (me_var 0) (fun _ => star_Name) (fun _ => T.hB.of "isinstance")) (ma_cons (me_isiX (tab := TB_NoLine) (nn := some false) (c := (.ref (clOf K "NoLine"))) (fun _ => rfl) (.own _) (cl_own (fun _ => T.m_NoLine)) (tabk_of (xcs_all T) T.kg_NoLine rfl) (nn_some T.kn_NoLine) (me_var 0) (fun _ => star_Name) (fun _ => T.hB.of "isinstance")) (ma_cons (me_isiX (tab := TB_NotThere) (nn := some false) (c := (.ref (clOf K "NotThere"))) (fun _ => rfl) (.own _) (cl_own (fun _ => T.m_NotThere)) (tabk_of (xcs_all T) T.kg_NotThere rfl) (nn_some T.kn_NotThere) (me_var 0) (fun _ => star_Name) (fun _ => T.hB.of "isinstance")) ma_nil (fun _ => star_Call)) (fun _ => star_Call)) (fun _ => star_Call))))))))))
theorem fn_law (T : Txt K mg) : ∃ f fd, mg "law" = some (.ref f) ∧ (∀ (s : Shared) (u : Value), BindsTo s fd ⟨[u], []⟩ [("_law_script", u)]) ∧ ∀ base, FnOk P w K mg base CX0 4 f fd ["_law_script"] (spM K F_law) :=
  T.d_law.okLG (N := ["_law_script", "_law_first", "_law_number", "_law_some", "_law_at"]) (k := 3) (b := m_law) sc_law rfl (fun _ _ _ _ _ _ us hl => match us, hl with | [_], _ => rfl) fun base f cdv A outer s H E hr => 
    (ml_cons (ms_set 1 (fun _ => sc_law.nd) (me_op q_mod (me_ix (q_ix (fun _ => rfl)) (me_op (q_add (fun _ => rfl)) (me_var 0) (me_lst (ma_cons me_int ma_nil (fun _ => star_Constant)))) me_int (fun _ _ => rfl)) (me_op q_pow me_int me_int))) 
      (ml_cons (ms_for (fun _ => PassesOwn.never) (fun _ => rfl) (mi_seq (fun _ => rfl) (me_lst (ma_cons (me_var 1) (ma_cons me_int (ma_cons me_int (ma_cons (me_op q_pow me_int me_int) ma_nil (fun _ => star_BinOp)) (fun _ => star_Constant)) (fun _ => star_Constant)) (fun _ => star_Name)))) (mg_name 2 (fun _ => sc_law.nd)) 
        (ml_cons (ms_set 3 (fun _ => sc_law.nd) (me_call (fun _ => ok__law_made T) (fun _ => hr.mono (by decide)) (ma_cons (me_var 2) ma_nil (fun _ => star_Name)))) 
      (ml_cons (ms_for (fun _ => PassesOwn.never) (fun _ => rfl) (mi_rng1 (fun _ => T.hB.of "range") (ma_cons me_int ma_nil (fun _ => star_Constant))) (mg_name 4 (fun _ => sc_law.nd)) 
        (ml_cons (ms_if (mt_w (mw_or (mt_not (mt_val (me_isiX (tab := TB_CutError) (nn := some false) (c := (.ref (clOf K "CutError"))) (fun _ => rfl) (.own _) (cl_own (fun _ => T.m_CutError)) (tabk_of (xcs_all T) T.kg_CutError rfl) (nn_some T.kn_CutError) (me_ix (q_ix (fun _ => rfl)) (me_var 3) (me_var 4) (fun _ _ => rfl)) (fun _ => star_Subscript) (fun _ => T.hB.of "isinstance")))) (mw_or1 (mt_not (mt_val (me_isiX (tab := TB_ValueError) (nn := some false) (c := (.type "ValueError")) (fun _ => rfl) (.ty _) (cl_ty (fun _ => T.hB.of "ValueError") boot_ValueError) (tabk_of (xcs_all T) T.kg_ValueError rfl) (nn_some T.kn_ValueError) (me_ix (q_ix (fun _ => rfl)) (me_var 3) (me_var 4) (fun _ _ => rfl)) (fun _ => star_Subscript) (fun _ => T.hB.of "isinstance"))))))) 
        (ml_one (ms_ret me_bl)) 
        ml_nil) 
      (ml_one (ms_if (mt_cmp (q_ne (fun _ => rfl) (fun _ => hr.units)) (me_call (fun _ => ok__law_of T) (fun _ => hr.mono (by decide)) (ma_cons (me_ix (q_ix (fun _ => rfl)) (me_var 3) (me_var 4) (fun _ _ => rfl)) ma_nil (fun _ => star_Subscript))) (me_lc (N' := (["_law_at", "_law_other"] : List Str)) (cap := [some 4, none]) (fun _ => rfl) (fun _ => lcsc_of (sc0 := defScope st_law) (N := ["_law_script", "_law_first", "_law_number", "_law_some", "_law_at"]) rfl rfl (by decide +kernel)) (mi_rng1 (fun _ => T.hB.of "range") (ma_cons me_int ma_nil (fun _ => star_Constant))) (mg_name 1 (fun _ => (show (["_law_at", "_law_other"] : List Str).Nodup by decide +kernel))) mf_nil (me_cmp (q_eq (fun _ => rfl) (fun _ => hr.units)) (me_var 1) (me_var 0)))) 
        (ml_one (ms_ret me_bl)) 
        ml_nil)))) 
      (ml_one (ms_if (mt_cmp (q_ne (fun _ => rfl) (fun _ => hr.units)) (me_lst (ma_cons (me_xfld (nms := ["NoTie", "NoLine"]) (fun _ => rfl) (taba_cons T.xc_NoTie.c T.xs_NoTie_at (taba_cons T.xc_NoLine.c T.xs_NoLine_at taba_nil)) (me_ix (q_ix (fun _ => rfl)) (me_var 3) me_int (fun _ _ => rfl))) (ma_cons (me_xfld (nms := ["TooMany"]) (fun _ => rfl) (taba_cons T.xc_TooMany.c T.xs_TooMany_most taba_nil) (me_ix (q_ix (fun _ => rfl)) (me_var 3) me_int (fun _ _ => rfl))) (ma_cons (me_xfld (nms := ["NoTie", "NoLine"]) (fun _ => rfl) (taba_cons T.xc_NoTie.c T.xs_NoTie_at (taba_cons T.xc_NoLine.c T.xs_NoLine_at taba_nil)) (me_ix (q_ix (fun _ => rfl)) (me_var 3) me_int (fun _ _ => rfl))) ma_nil (fun _ => star_Attribute)) (fun _ => star_Attribute)) (fun _ => star_Attribute))) (me_op (q_mulY (fun _ => rfl)) (me_new (ma_cons (me_var 2) ma_nil (fun _ => star_Name))) me_int)) 
        (ml_one (ms_ret me_bl)) 
        ml_nil))))) 
      (ml_one (ms_ret me_bl))))
theorem txt_mk {h : Heap} {C_NoWeight : Addr} {C_NoPlace : Addr} {C_NoTie : Addr} {C_TooMany : Addr} {C_NoSide : Addr} {C_NoFlow : Addr} {C_NotGreatest : Addr} {C_NoTree : Addr} {C_OnePlace : Addr} {C_InPieces : Addr} {C_NoChart : Addr} {C_NoGroups : Addr} {C_NoDemand : Addr} {C_NoLine : Addr} {C_NotThere : Addr} {C_CutError : Addr} {f_NoTie__init : Addr} {od_NoTie__init an_NoTie__init : Option Addr} {sl_NoTie__init : Array (Option Value)} {oc_NoTie__init kV_NoTie__init dc_NoTie__init pm_NoTie__init cd_NoTie__init ct_NoTie__init : Value} {f_TooMany__init : Addr} {od_TooMany__init an_TooMany__init : Option Addr} {sl_TooMany__init : Array (Option Value)} {oc_TooMany__init kV_TooMany__init dc_TooMany__init pm_TooMany__init cd_TooMany__init ct_TooMany__init : Value} {f_NoLine__init : Addr} {od_NoLine__init an_NoLine__init : Option Addr} {sl_NoLine__init : Array (Option Value)} {oc_NoLine__init kV_NoLine__init dc_NoLine__init pm_NoLine__init cd_NoLine__init ct_NoLine__init : Value} {f__law_made : Addr} {od__law_made an__law_made : Option Addr} {sl__law_made : Array (Option Value)} {oc__law_made kV__law_made dc__law_made pm__law_made cd__law_made ct__law_made : Value} {f__law_of : Addr} {od__law_of an__law_of : Option Addr} {sl__law_of : Array (Option Value)} {oc__law_of kV__law_of dc__law_of pm__law_of cd__law_of ct__law_of : Value} {f_law : Addr} {od_law an_law : Option Addr} {sl_law : Array (Option Value)} {oc_law kV_law dc_law pm_law cd_law ct_law : Value} (X : K.In h) (G : h.Ns mainGlobals mg) (z_ValueError : PySem.W.nsIn K mainGlobals "ValueError" = some none) (z_isinstance : PySem.W.nsIn K mainGlobals "isinstance" = some none) (z_range : PySem.W.nsIn K mainGlobals "range" = some none) (a_NoWeight : PySem.W.nsIn K mainGlobals "NoWeight" = some (some (.ref C_NoWeight))) (xc_NoWeight_ga : PySem.W.findIn K (.ref C_NoWeight) "__getattribute__" = some (some (.builtin "BaseException.__getattribute__"))) (xc_NoWeight_gh : PySem.W.findIn K (.ref C_NoWeight) "__getattr__" = some none) (xc_NoWeight_be : PySem.W.subIn K (.ref C_NoWeight) (.type "BaseException") = some true) (xc_NoWeight_cl : (PySem.W.clsIn K C_NoWeight).isSome = true) (xc_NoWeight_ha : PySem.W.findIn K (.ref C_NoWeight) "__class__" = some (some (.builtin "object.__class__"))) (xc_NoWeight_hn : PySem.W.specialIn K (.builtin "object.__class__") "__get__" = some (some (.builtin "getset_descriptor.__get__"))) (xc_NoWeight_htk : PySem.W.takesIn K (.builtin "object.__class__") = some true) (xc_NoWeight_hm : PySem.W.mroIn K C_NoWeight (.type "object") = some true) (a_NoPlace : PySem.W.nsIn K mainGlobals "NoPlace" = some (some (.ref C_NoPlace))) (xc_NoPlace_ga : PySem.W.findIn K (.ref C_NoPlace) "__getattribute__" = some (some (.builtin "BaseException.__getattribute__"))) (xc_NoPlace_gh : PySem.W.findIn K (.ref C_NoPlace) "__getattr__" = some none) (xc_NoPlace_be : PySem.W.subIn K (.ref C_NoPlace) (.type "BaseException") = some true) (xc_NoPlace_cl : (PySem.W.clsIn K C_NoPlace).isSome = true) (xc_NoPlace_ha : PySem.W.findIn K (.ref C_NoPlace) "__class__" = some (some (.builtin "object.__class__"))) (xc_NoPlace_hn : PySem.W.specialIn K (.builtin "object.__class__") "__get__" = some (some (.builtin "getset_descriptor.__get__"))) (xc_NoPlace_htk : PySem.W.takesIn K (.builtin "object.__class__") = some true) (xc_NoPlace_hm : PySem.W.mroIn K C_NoPlace (.type "object") = some true) (a_NoTie : PySem.W.nsIn K mainGlobals "NoTie" = some (some (.ref C_NoTie))) (xc_NoTie_ga : PySem.W.findIn K (.ref C_NoTie) "__getattribute__" = some (some (.builtin "BaseException.__getattribute__"))) (xc_NoTie_gh : PySem.W.findIn K (.ref C_NoTie) "__getattr__" = some none) (xc_NoTie_be : PySem.W.subIn K (.ref C_NoTie) (.type "BaseException") = some true) (xc_NoTie_cl : (PySem.W.clsIn K C_NoTie).isSome = true) (xc_NoTie_ha : PySem.W.findIn K (.ref C_NoTie) "__class__" = some (some (.builtin "object.__class__"))) (xc_NoTie_hn : PySem.W.specialIn K (.builtin "object.__class__") "__get__" = some (some (.builtin "getset_descriptor.__get__"))) (xc_NoTie_htk : PySem.W.takesIn K (.builtin "object.__class__") = some true) (xc_NoTie_hm : PySem.W.mroIn K C_NoTie (.type "object") = some true) (a_TooMany : PySem.W.nsIn K mainGlobals "TooMany" = some (some (.ref C_TooMany))) (xc_TooMany_ga : PySem.W.findIn K (.ref C_TooMany) "__getattribute__" = some (some (.builtin "BaseException.__getattribute__"))) (xc_TooMany_gh : PySem.W.findIn K (.ref C_TooMany) "__getattr__" = some none) (xc_TooMany_be : PySem.W.subIn K (.ref C_TooMany) (.type "BaseException") = some true) (xc_TooMany_cl : (PySem.W.clsIn K C_TooMany).isSome = true) (xc_TooMany_ha : PySem.W.findIn K (.ref C_TooMany) "__class__" = some (some (.builtin "object.__class__"))) (xc_TooMany_hn : PySem.W.specialIn K (.builtin "object.__class__") "__get__" = some (some (.builtin "getset_descriptor.__get__"))) (xc_TooMany_htk : PySem.W.takesIn K (.builtin "object.__class__") = some true) (xc_TooMany_hm : PySem.W.mroIn K C_TooMany (.type "object") = some true) (a_NoSide : PySem.W.nsIn K mainGlobals "NoSide" = some (some (.ref C_NoSide))) (xc_NoSide_ga : PySem.W.findIn K (.ref C_NoSide) "__getattribute__" = some (some (.builtin "BaseException.__getattribute__"))) (xc_NoSide_gh : PySem.W.findIn K (.ref C_NoSide) "__getattr__" = some none) (xc_NoSide_be : PySem.W.subIn K (.ref C_NoSide) (.type "BaseException") = some true) (xc_NoSide_cl : (PySem.W.clsIn K C_NoSide).isSome = true) (xc_NoSide_ha : PySem.W.findIn K (.ref C_NoSide) "__class__" = some (some (.builtin "object.__class__"))) (xc_NoSide_hn : PySem.W.specialIn K (.builtin "object.__class__") "__get__" = some (some (.builtin "getset_descriptor.__get__"))) (xc_NoSide_htk : PySem.W.takesIn K (.builtin "object.__class__") = some true) (xc_NoSide_hm : PySem.W.mroIn K C_NoSide (.type "object") = some true) (a_NoFlow : PySem.W.nsIn K mainGlobals "NoFlow" = some (some (.ref C_NoFlow))) (xc_NoFlow_ga : PySem.W.findIn K (.ref C_NoFlow) "__getattribute__" = some (some (.builtin "BaseException.__getattribute__"))) (xc_NoFlow_gh : PySem.W.findIn K (.ref C_NoFlow) "__getattr__" = some none) (xc_NoFlow_be : PySem.W.subIn K (.ref C_NoFlow) (.type "BaseException") = some true) (xc_NoFlow_cl : (PySem.W.clsIn K C_NoFlow).isSome = true) (xc_NoFlow_ha : PySem.W.findIn K (.ref C_NoFlow) "__class__" = some (some (.builtin "object.__class__"))) (xc_NoFlow_hn : PySem.W.specialIn K (.builtin "object.__class__") "__get__" = some (some (.builtin "getset_descriptor.__get__"))) (xc_NoFlow_htk : PySem.W.takesIn K (.builtin "object.__class__") = some true) (xc_NoFlow_hm : PySem.W.mroIn K C_NoFlow (.type "object") = some true) (a_NotGreatest : PySem.W.nsIn K mainGlobals "NotGreatest" = some (some (.ref C_NotGreatest))) (xc_NotGreatest_ga : PySem.W.findIn K (.ref C_NotGreatest) "__getattribute__" = some (some (.builtin "BaseException.__getattribute__"))) (xc_NotGreatest_gh : PySem.W.findIn K (.ref C_NotGreatest) "__getattr__" = some none) (xc_NotGreatest_be : PySem.W.subIn K (.ref C_NotGreatest) (.type "BaseException") = some true) (xc_NotGreatest_cl : (PySem.W.clsIn K C_NotGreatest).isSome = true) (xc_NotGreatest_ha : PySem.W.findIn K (.ref C_NotGreatest) "__class__" = some (some (.builtin "object.__class__"))) (xc_NotGreatest_hn : PySem.W.specialIn K (.builtin "object.__class__") "__get__" = some (some (.builtin "getset_descriptor.__get__"))) (xc_NotGreatest_htk : PySem.W.takesIn K (.builtin "object.__class__") = some true) (xc_NotGreatest_hm : PySem.W.mroIn K C_NotGreatest (.type "object") = some true) (a_NoTree : PySem.W.nsIn K mainGlobals "NoTree" = some (some (.ref C_NoTree))) (xc_NoTree_ga : PySem.W.findIn K (.ref C_NoTree) "__getattribute__" = some (some (.builtin "BaseException.__getattribute__"))) (xc_NoTree_gh : PySem.W.findIn K (.ref C_NoTree) "__getattr__" = some none) (xc_NoTree_be : PySem.W.subIn K (.ref C_NoTree) (.type "BaseException") = some true) (xc_NoTree_cl : (PySem.W.clsIn K C_NoTree).isSome = true) (xc_NoTree_ha : PySem.W.findIn K (.ref C_NoTree) "__class__" = some (some (.builtin "object.__class__"))) (xc_NoTree_hn : PySem.W.specialIn K (.builtin "object.__class__") "__get__" = some (some (.builtin "getset_descriptor.__get__"))) (xc_NoTree_htk : PySem.W.takesIn K (.builtin "object.__class__") = some true) (xc_NoTree_hm : PySem.W.mroIn K C_NoTree (.type "object") = some true) (a_OnePlace : PySem.W.nsIn K mainGlobals "OnePlace" = some (some (.ref C_OnePlace))) (xc_OnePlace_ga : PySem.W.findIn K (.ref C_OnePlace) "__getattribute__" = some (some (.builtin "BaseException.__getattribute__"))) (xc_OnePlace_gh : PySem.W.findIn K (.ref C_OnePlace) "__getattr__" = some none) (xc_OnePlace_be : PySem.W.subIn K (.ref C_OnePlace) (.type "BaseException") = some true) (xc_OnePlace_cl : (PySem.W.clsIn K C_OnePlace).isSome = true) (xc_OnePlace_ha : PySem.W.findIn K (.ref C_OnePlace) "__class__" = some (some (.builtin "object.__class__"))) (xc_OnePlace_hn : PySem.W.specialIn K (.builtin "object.__class__") "__get__" = some (some (.builtin "getset_descriptor.__get__"))) (xc_OnePlace_htk : PySem.W.takesIn K (.builtin "object.__class__") = some true) (xc_OnePlace_hm : PySem.W.mroIn K C_OnePlace (.type "object") = some true) (a_InPieces : PySem.W.nsIn K mainGlobals "InPieces" = some (some (.ref C_InPieces))) (xc_InPieces_ga : PySem.W.findIn K (.ref C_InPieces) "__getattribute__" = some (some (.builtin "BaseException.__getattribute__"))) (xc_InPieces_gh : PySem.W.findIn K (.ref C_InPieces) "__getattr__" = some none) (xc_InPieces_be : PySem.W.subIn K (.ref C_InPieces) (.type "BaseException") = some true) (xc_InPieces_cl : (PySem.W.clsIn K C_InPieces).isSome = true) (xc_InPieces_ha : PySem.W.findIn K (.ref C_InPieces) "__class__" = some (some (.builtin "object.__class__"))) (xc_InPieces_hn : PySem.W.specialIn K (.builtin "object.__class__") "__get__" = some (some (.builtin "getset_descriptor.__get__"))) (xc_InPieces_htk : PySem.W.takesIn K (.builtin "object.__class__") = some true) (xc_InPieces_hm : PySem.W.mroIn K C_InPieces (.type "object") = some true) (a_NoChart : PySem.W.nsIn K mainGlobals "NoChart" = some (some (.ref C_NoChart))) (xc_NoChart_ga : PySem.W.findIn K (.ref C_NoChart) "__getattribute__" = some (some (.builtin "BaseException.__getattribute__"))) (xc_NoChart_gh : PySem.W.findIn K (.ref C_NoChart) "__getattr__" = some none) (xc_NoChart_be : PySem.W.subIn K (.ref C_NoChart) (.type "BaseException") = some true) (xc_NoChart_cl : (PySem.W.clsIn K C_NoChart).isSome = true) (xc_NoChart_ha : PySem.W.findIn K (.ref C_NoChart) "__class__" = some (some (.builtin "object.__class__"))) (xc_NoChart_hn : PySem.W.specialIn K (.builtin "object.__class__") "__get__" = some (some (.builtin "getset_descriptor.__get__"))) (xc_NoChart_htk : PySem.W.takesIn K (.builtin "object.__class__") = some true) (xc_NoChart_hm : PySem.W.mroIn K C_NoChart (.type "object") = some true) (a_NoGroups : PySem.W.nsIn K mainGlobals "NoGroups" = some (some (.ref C_NoGroups))) (xc_NoGroups_ga : PySem.W.findIn K (.ref C_NoGroups) "__getattribute__" = some (some (.builtin "BaseException.__getattribute__"))) (xc_NoGroups_gh : PySem.W.findIn K (.ref C_NoGroups) "__getattr__" = some none) (xc_NoGroups_be : PySem.W.subIn K (.ref C_NoGroups) (.type "BaseException") = some true) (xc_NoGroups_cl : (PySem.W.clsIn K C_NoGroups).isSome = true) (xc_NoGroups_ha : PySem.W.findIn K (.ref C_NoGroups) "__class__" = some (some (.builtin "object.__class__"))) (xc_NoGroups_hn : PySem.W.specialIn K (.builtin "object.__class__") "__get__" = some (some (.builtin "getset_descriptor.__get__"))) (xc_NoGroups_htk : PySem.W.takesIn K (.builtin "object.__class__") = some true) (xc_NoGroups_hm : PySem.W.mroIn K C_NoGroups (.type "object") = some true) (a_NoDemand : PySem.W.nsIn K mainGlobals "NoDemand" = some (some (.ref C_NoDemand))) (xc_NoDemand_ga : PySem.W.findIn K (.ref C_NoDemand) "__getattribute__" = some (some (.builtin "BaseException.__getattribute__"))) (xc_NoDemand_gh : PySem.W.findIn K (.ref C_NoDemand) "__getattr__" = some none) (xc_NoDemand_be : PySem.W.subIn K (.ref C_NoDemand) (.type "BaseException") = some true) (xc_NoDemand_cl : (PySem.W.clsIn K C_NoDemand).isSome = true) (xc_NoDemand_ha : PySem.W.findIn K (.ref C_NoDemand) "__class__" = some (some (.builtin "object.__class__"))) (xc_NoDemand_hn : PySem.W.specialIn K (.builtin "object.__class__") "__get__" = some (some (.builtin "getset_descriptor.__get__"))) (xc_NoDemand_htk : PySem.W.takesIn K (.builtin "object.__class__") = some true) (xc_NoDemand_hm : PySem.W.mroIn K C_NoDemand (.type "object") = some true) (a_NoLine : PySem.W.nsIn K mainGlobals "NoLine" = some (some (.ref C_NoLine))) (xc_NoLine_ga : PySem.W.findIn K (.ref C_NoLine) "__getattribute__" = some (some (.builtin "BaseException.__getattribute__"))) (xc_NoLine_gh : PySem.W.findIn K (.ref C_NoLine) "__getattr__" = some none) (xc_NoLine_be : PySem.W.subIn K (.ref C_NoLine) (.type "BaseException") = some true) (xc_NoLine_cl : (PySem.W.clsIn K C_NoLine).isSome = true) (xc_NoLine_ha : PySem.W.findIn K (.ref C_NoLine) "__class__" = some (some (.builtin "object.__class__"))) (xc_NoLine_hn : PySem.W.specialIn K (.builtin "object.__class__") "__get__" = some (some (.builtin "getset_descriptor.__get__"))) (xc_NoLine_htk : PySem.W.takesIn K (.builtin "object.__class__") = some true) (xc_NoLine_hm : PySem.W.mroIn K C_NoLine (.type "object") = some true) (a_NotThere : PySem.W.nsIn K mainGlobals "NotThere" = some (some (.ref C_NotThere))) (xc_NotThere_ga : PySem.W.findIn K (.ref C_NotThere) "__getattribute__" = some (some (.builtin "BaseException.__getattribute__"))) (xc_NotThere_gh : PySem.W.findIn K (.ref C_NotThere) "__getattr__" = some none) (xc_NotThere_be : PySem.W.subIn K (.ref C_NotThere) (.type "BaseException") = some true) (xc_NotThere_cl : (PySem.W.clsIn K C_NotThere).isSome = true) (xc_NotThere_ha : PySem.W.findIn K (.ref C_NotThere) "__class__" = some (some (.builtin "object.__class__"))) (xc_NotThere_hn : PySem.W.specialIn K (.builtin "object.__class__") "__get__" = some (some (.builtin "getset_descriptor.__get__"))) (xc_NotThere_htk : PySem.W.takesIn K (.builtin "object.__class__") = some true) (xc_NotThere_hm : PySem.W.mroIn K C_NotThere (.type "object") = some true) (kg_NoTie : ktAll K (.ref C_NoTie) TB_NoTie = true) (kn_NoTie : PySem.W.kitOne K (.type "NoneType") (.ref C_NoTie) = some false) (kg_NoPlace : ktAll K (.ref C_NoPlace) TB_NoPlace = true) (kn_NoPlace : PySem.W.kitOne K (.type "NoneType") (.ref C_NoPlace) = some false) (kg_NoWeight : ktAll K (.ref C_NoWeight) TB_NoWeight = true) (kn_NoWeight : PySem.W.kitOne K (.type "NoneType") (.ref C_NoWeight) = some false) (kg_NoFlow : ktAll K (.ref C_NoFlow) TB_NoFlow = true) (kn_NoFlow : PySem.W.kitOne K (.type "NoneType") (.ref C_NoFlow) = some false) (kg_NoSide : ktAll K (.ref C_NoSide) TB_NoSide = true) (kn_NoSide : PySem.W.kitOne K (.type "NoneType") (.ref C_NoSide) = some false) (kg_TooMany : ktAll K (.ref C_TooMany) TB_TooMany = true) (kn_TooMany : PySem.W.kitOne K (.type "NoneType") (.ref C_TooMany) = some false) (kg_OnePlace : ktAll K (.ref C_OnePlace) TB_OnePlace = true) (kn_OnePlace : PySem.W.kitOne K (.type "NoneType") (.ref C_OnePlace) = some false) (kg_NoTree : ktAll K (.ref C_NoTree) TB_NoTree = true) (kn_NoTree : PySem.W.kitOne K (.type "NoneType") (.ref C_NoTree) = some false) (kg_NotGreatest : ktAll K (.ref C_NotGreatest) TB_NotGreatest = true) (kn_NotGreatest : PySem.W.kitOne K (.type "NoneType") (.ref C_NotGreatest) = some false) (kg_NoGroups : ktAll K (.ref C_NoGroups) TB_NoGroups = true) (kn_NoGroups : PySem.W.kitOne K (.type "NoneType") (.ref C_NoGroups) = some false) (kg_NoChart : ktAll K (.ref C_NoChart) TB_NoChart = true) (kn_NoChart : PySem.W.kitOne K (.type "NoneType") (.ref C_NoChart) = some false) (kg_InPieces : ktAll K (.ref C_InPieces) TB_InPieces = true) (kn_InPieces : PySem.W.kitOne K (.type "NoneType") (.ref C_InPieces) = some false) (kg_NotThere : ktAll K (.ref C_NotThere) TB_NotThere = true) (kn_NotThere : PySem.W.kitOne K (.type "NoneType") (.ref C_NotThere) = some false) (kg_NoLine : ktAll K (.ref C_NoLine) TB_NoLine = true) (kn_NoLine : PySem.W.kitOne K (.type "NoneType") (.ref C_NoLine) = some false) (kg_NoDemand : ktAll K (.ref C_NoDemand) TB_NoDemand = true) (kn_NoDemand : PySem.W.kitOne K (.type "NoneType") (.ref C_NoDemand) = some false) (kp_NoTree : PySem.W.keepIn K (.ref C_NoTree) = true) (q_NoTree : PySem.W.excIn K C_NoTree bmV "ValueError.__new__" = true) (kp_NotGreatest : PySem.W.keepIn K (.ref C_NotGreatest) = true) (q_NotGreatest : PySem.W.excIn K C_NotGreatest bmV "ValueError.__new__" = true) (kp_NoFlow : PySem.W.keepIn K (.ref C_NoFlow) = true) (q_NoFlow : PySem.W.excIn K C_NoFlow bmV "ValueError.__new__" = true) (kp_NoSide : PySem.W.keepIn K (.ref C_NoSide) = true) (q_NoSide : PySem.W.excIn K C_NoSide bmV "ValueError.__new__" = true) (kp_TooMany : PySem.W.keepIn K (.ref C_TooMany) = true) (kp_NoTie : PySem.W.keepIn K (.ref C_NoTie) = true) (kp_NoPlace : PySem.W.keepIn K (.ref C_NoPlace) = true) (q_NoPlace : PySem.W.excIn K C_NoPlace bmV "ValueError.__new__" = true) (kp_NoWeight : PySem.W.keepIn K (.ref C_NoWeight) = true) (q_NoWeight : PySem.W.excIn K C_NoWeight bmV "ValueError.__new__" = true) (kp_NotThere : PySem.W.keepIn K (.ref C_NotThere) = true) (q_NotThere : PySem.W.excIn K C_NotThere bmV "ValueError.__new__" = true) (kp_NoLine : PySem.W.keepIn K (.ref C_NoLine) = true) (kp_NoDemand : PySem.W.keepIn K (.ref C_NoDemand) = true) (q_NoDemand : PySem.W.excIn K C_NoDemand bmV "ValueError.__new__" = true) (kp_NoGroups : PySem.W.keepIn K (.ref C_NoGroups) = true) (q_NoGroups : PySem.W.excIn K C_NoGroups bmV "ValueError.__new__" = true) (kp_NoChart : PySem.W.keepIn K (.ref C_NoChart) = true) (q_NoChart : PySem.W.excIn K C_NoChart bmV "ValueError.__new__" = true) (kp_InPieces : PySem.W.keepIn K (.ref C_InPieces) = true) (q_InPieces : PySem.W.excIn K C_InPieces bmV "ValueError.__new__" = true) (kp_OnePlace : PySem.W.keepIn K (.ref C_OnePlace) = true) (q_OnePlace : PySem.W.excIn K C_OnePlace bmV "ValueError.__new__" = true) (kg_ValueError : ktAll K (.type "ValueError") TB_ValueError = true) (kn_ValueError : PySem.W.kitOne K (.type "NoneType") (.type "ValueError") = some false) (a_CutError : PySem.W.nsIn K mainGlobals "CutError" = some (some (.ref C_CutError))) (kg_CutError : ktAll K (.ref C_CutError) TB_CutError = true) (kn_CutError : PySem.W.kitOne K (.type "NoneType") (.ref C_CutError) = some false) (xs_NoLine_at_sa : PySem.W.findIn K (.ref C_NoLine) "__setattr__" = some (some (.builtin "object.__setattr__"))) (xs_NoLine_at_ov : xOver K C_NoLine = true) (xs_NoLine_at_tk : PySem.W.takerIn K C_NoLine "at" = some none) (xs_NoLine_at_hd : PySem.W.hasDictIn K C_NoLine = true) (xs_NoLine_at_na : PySem.W.findIn K (.ref C_NoLine) "at" = some none) (xs_NoTie_at_sa : PySem.W.findIn K (.ref C_NoTie) "__setattr__" = some (some (.builtin "object.__setattr__"))) (xs_NoTie_at_ov : xOver K C_NoTie = true) (xs_NoTie_at_tk : PySem.W.takerIn K C_NoTie "at" = some none) (xs_NoTie_at_hd : PySem.W.hasDictIn K C_NoTie = true) (xs_NoTie_at_na : PySem.W.findIn K (.ref C_NoTie) "at" = some none) (xs_TooMany_most_sa : PySem.W.findIn K (.ref C_TooMany) "__setattr__" = some (some (.builtin "object.__setattr__"))) (xs_TooMany_most_ov : xOver K C_TooMany = true) (xs_TooMany_most_tk : PySem.W.takerIn K C_TooMany "most" = some none) (xs_TooMany_most_hd : PySem.W.hasDictIn K C_TooMany = true) (xs_TooMany_most_na : PySem.W.findIn K (.ref C_TooMany) "most" = some none) (xt_NoTie : excT K C_NoTie = true) (i_NoTie__init : PySem.W.findIn K (.ref C_NoTie) "__init__" = some (some (.ref f_NoTie__init))) (l_NoTie__init : K.lookup f_NoTie__init = some ⟨oc_NoTie__init, od_NoTie__init, .func (PySem.W.fnOf "__init__" "NoTie.__init__" (defArgs st_NoTie__init) (defBody st_NoTie__init) (defScope st_NoTie__init) .none kV_NoTie__init dc_NoTie__init pm_NoTie__init an_NoTie__init cd_NoTie__init ct_NoTie__init), sl_NoTie__init⟩) (c_NoTie__init : PySem.W.codeIn K cd_NoTie__init "NoTie.__init__" = true) (k_NoTie__init : PySem.W.keepIn K (.ref f_NoTie__init) = true) (g_NoTie__init : PySem.W.isFn K (.ref f_NoTie__init) = true) (xt_TooMany : excT K C_TooMany = true) (i_TooMany__init : PySem.W.findIn K (.ref C_TooMany) "__init__" = some (some (.ref f_TooMany__init))) (l_TooMany__init : K.lookup f_TooMany__init = some ⟨oc_TooMany__init, od_TooMany__init, .func (PySem.W.fnOf "__init__" "TooMany.__init__" (defArgs st_TooMany__init) (defBody st_TooMany__init) (defScope st_TooMany__init) .none kV_TooMany__init dc_TooMany__init pm_TooMany__init an_TooMany__init cd_TooMany__init ct_TooMany__init), sl_TooMany__init⟩) (c_TooMany__init : PySem.W.codeIn K cd_TooMany__init "TooMany.__init__" = true) (k_TooMany__init : PySem.W.keepIn K (.ref f_TooMany__init) = true) (g_TooMany__init : PySem.W.isFn K (.ref f_TooMany__init) = true) (xt_NoLine : excT K C_NoLine = true) (i_NoLine__init : PySem.W.findIn K (.ref C_NoLine) "__init__" = some (some (.ref f_NoLine__init))) (l_NoLine__init : K.lookup f_NoLine__init = some ⟨oc_NoLine__init, od_NoLine__init, .func (PySem.W.fnOf "__init__" "NoLine.__init__" (defArgs st_NoLine__init) (defBody st_NoLine__init) (defScope st_NoLine__init) .none kV_NoLine__init dc_NoLine__init pm_NoLine__init an_NoLine__init cd_NoLine__init ct_NoLine__init), sl_NoLine__init⟩) (c_NoLine__init : PySem.W.codeIn K cd_NoLine__init "NoLine.__init__" = true) (k_NoLine__init : PySem.W.keepIn K (.ref f_NoLine__init) = true) (g_NoLine__init : PySem.W.isFn K (.ref f_NoLine__init) = true) (a__law_made : PySem.W.nsIn K mainGlobals "_law_made" = some (some (.ref f__law_made))) (l__law_made : K.lookup f__law_made = some ⟨oc__law_made, od__law_made, .func (PySem.W.fnOf "_law_made" "_law_made" (defArgs st__law_made) (defBody st__law_made) (defScope st__law_made) .none kV__law_made dc__law_made pm__law_made an__law_made cd__law_made ct__law_made), sl__law_made⟩) (c__law_made : PySem.W.codeIn K cd__law_made "_law_made" = true) (k__law_made : PySem.W.keepIn K (.ref f__law_made) = true) (a__law_of : PySem.W.nsIn K mainGlobals "_law_of" = some (some (.ref f__law_of))) (l__law_of : K.lookup f__law_of = some ⟨oc__law_of, od__law_of, .func (PySem.W.fnOf "_law_of" "_law_of" (defArgs st__law_of) (defBody st__law_of) (defScope st__law_of) .none kV__law_of dc__law_of pm__law_of an__law_of cd__law_of ct__law_of), sl__law_of⟩) (c__law_of : PySem.W.codeIn K cd__law_of "_law_of" = true) (k__law_of : PySem.W.keepIn K (.ref f__law_of) = true) (a_law : PySem.W.nsIn K mainGlobals "law" = some (some (.ref f_law))) (l_law : K.lookup f_law = some ⟨oc_law, od_law, .func (PySem.W.fnOf "law" "law" (defArgs st_law) (defBody st_law) (defScope st_law) .none kV_law dc_law pm_law an_law cd_law ct_law), sl_law⟩) (c_law : PySem.W.codeIn K cd_law "law" = true) (k_law : PySem.W.keepIn K (.ref f_law) = true) : Txt K mg := by
  cases clOf_of a_NoWeight
  cases clOf_of a_NoPlace
  cases clOf_of a_NoTie
  cases clOf_of a_TooMany
  cases clOf_of a_NoSide
  cases clOf_of a_NoFlow
  cases clOf_of a_NotGreatest
  cases clOf_of a_NoTree
  cases clOf_of a_OnePlace
  cases clOf_of a_InPieces
  cases clOf_of a_NoChart
  cases clOf_of a_NoGroups
  cases clOf_of a_NoDemand
  cases clOf_of a_NoLine
  cases clOf_of a_NotThere
  cases clOf_of a_CutError
  exact ⟨(free_cons (PySem.W.mg_none_of X G z_ValueError) (free_cons (PySem.W.mg_none_of X G z_isinstance) (free_cons (PySem.W.mg_none_of X G z_range) free_nil))), PySem.W.mg_of X G a_NoWeight, ⟨⟨xc_NoWeight_ga, xc_NoWeight_gh, xc_NoWeight_be, xc_NoWeight_cl⟩, xc_NoWeight_ha, xc_NoWeight_hn, xc_NoWeight_htk, xc_NoWeight_hm⟩, PySem.W.mg_of X G a_NoPlace, ⟨⟨xc_NoPlace_ga, xc_NoPlace_gh, xc_NoPlace_be, xc_NoPlace_cl⟩, xc_NoPlace_ha, xc_NoPlace_hn, xc_NoPlace_htk, xc_NoPlace_hm⟩, PySem.W.mg_of X G a_NoTie, ⟨⟨xc_NoTie_ga, xc_NoTie_gh, xc_NoTie_be, xc_NoTie_cl⟩, xc_NoTie_ha, xc_NoTie_hn, xc_NoTie_htk, xc_NoTie_hm⟩, PySem.W.mg_of X G a_TooMany, ⟨⟨xc_TooMany_ga, xc_TooMany_gh, xc_TooMany_be, xc_TooMany_cl⟩, xc_TooMany_ha, xc_TooMany_hn, xc_TooMany_htk, xc_TooMany_hm⟩, PySem.W.mg_of X G a_NoSide, ⟨⟨xc_NoSide_ga, xc_NoSide_gh, xc_NoSide_be, xc_NoSide_cl⟩, xc_NoSide_ha, xc_NoSide_hn, xc_NoSide_htk, xc_NoSide_hm⟩, PySem.W.mg_of X G a_NoFlow, ⟨⟨xc_NoFlow_ga, xc_NoFlow_gh, xc_NoFlow_be, xc_NoFlow_cl⟩, xc_NoFlow_ha, xc_NoFlow_hn, xc_NoFlow_htk, xc_NoFlow_hm⟩, PySem.W.mg_of X G a_NotGreatest, ⟨⟨xc_NotGreatest_ga, xc_NotGreatest_gh, xc_NotGreatest_be, xc_NotGreatest_cl⟩, xc_NotGreatest_ha, xc_NotGreatest_hn, xc_NotGreatest_htk, xc_NotGreatest_hm⟩, PySem.W.mg_of X G a_NoTree, ⟨⟨xc_NoTree_ga, xc_NoTree_gh, xc_NoTree_be, xc_NoTree_cl⟩, xc_NoTree_ha, xc_NoTree_hn, xc_NoTree_htk, xc_NoTree_hm⟩, PySem.W.mg_of X G a_OnePlace, ⟨⟨xc_OnePlace_ga, xc_OnePlace_gh, xc_OnePlace_be, xc_OnePlace_cl⟩, xc_OnePlace_ha, xc_OnePlace_hn, xc_OnePlace_htk, xc_OnePlace_hm⟩, PySem.W.mg_of X G a_InPieces, ⟨⟨xc_InPieces_ga, xc_InPieces_gh, xc_InPieces_be, xc_InPieces_cl⟩, xc_InPieces_ha, xc_InPieces_hn, xc_InPieces_htk, xc_InPieces_hm⟩, PySem.W.mg_of X G a_NoChart, ⟨⟨xc_NoChart_ga, xc_NoChart_gh, xc_NoChart_be, xc_NoChart_cl⟩, xc_NoChart_ha, xc_NoChart_hn, xc_NoChart_htk, xc_NoChart_hm⟩, PySem.W.mg_of X G a_NoGroups, ⟨⟨xc_NoGroups_ga, xc_NoGroups_gh, xc_NoGroups_be, xc_NoGroups_cl⟩, xc_NoGroups_ha, xc_NoGroups_hn, xc_NoGroups_htk, xc_NoGroups_hm⟩, PySem.W.mg_of X G a_NoDemand, ⟨⟨xc_NoDemand_ga, xc_NoDemand_gh, xc_NoDemand_be, xc_NoDemand_cl⟩, xc_NoDemand_ha, xc_NoDemand_hn, xc_NoDemand_htk, xc_NoDemand_hm⟩, PySem.W.mg_of X G a_NoLine, ⟨⟨xc_NoLine_ga, xc_NoLine_gh, xc_NoLine_be, xc_NoLine_cl⟩, xc_NoLine_ha, xc_NoLine_hn, xc_NoLine_htk, xc_NoLine_hm⟩, PySem.W.mg_of X G a_NotThere, ⟨⟨xc_NotThere_ga, xc_NotThere_gh, xc_NotThere_be, xc_NotThere_cl⟩, xc_NotThere_ha, xc_NotThere_hn, xc_NotThere_htk, xc_NotThere_hm⟩, kg_NoTie, kn_NoTie, kg_NoPlace, kn_NoPlace, kg_NoWeight, kn_NoWeight, kg_NoFlow, kn_NoFlow, kg_NoSide, kn_NoSide, kg_TooMany, kn_TooMany, kg_OnePlace, kn_OnePlace, kg_NoTree, kn_NoTree, kg_NotGreatest, kn_NotGreatest, kg_NoGroups, kn_NoGroups, kg_NoChart, kn_NoChart, kg_InPieces, kn_InPieces, kg_NotThere, kn_NotThere, kg_NoLine, kn_NoLine, kg_NoDemand, kn_NoDemand, kp_NoTree, q_NoTree, kp_NotGreatest, q_NotGreatest, kp_NoFlow, q_NoFlow, kp_NoSide, q_NoSide, kp_TooMany, kp_NoTie, kp_NoPlace, q_NoPlace, kp_NoWeight, q_NoWeight, kp_NotThere, q_NotThere, kp_NoLine, kp_NoDemand, q_NoDemand, kp_NoGroups, q_NoGroups, kp_NoChart, q_NoChart, kp_InPieces, q_InPieces, kp_OnePlace, q_OnePlace, kg_ValueError, kn_ValueError, PySem.W.mg_of X G a_CutError, kg_CutError, kn_CutError, ⟨xs_NoLine_at_sa, xs_NoLine_at_ov, xs_NoLine_at_tk, xs_NoLine_at_hd, xs_NoLine_at_na⟩, ⟨xs_NoTie_at_sa, xs_NoTie_at_ov, xs_NoTie_at_tk, xs_NoTie_at_hd, xs_NoTie_at_na⟩, ⟨xs_TooMany_most_sa, xs_TooMany_most_ov, xs_TooMany_most_tk, xs_TooMany_most_hd, xs_TooMany_most_na⟩, xt_NoTie, mdef_mk rfl i_NoTie__init l_NoTie__init c_NoTie__init k_NoTie__init g_NoTie__init, xt_TooMany, mdef_mk rfl i_TooMany__init l_TooMany__init c_TooMany__init k_TooMany__init g_TooMany__init, xt_NoLine, mdef_mk rfl i_NoLine__init l_NoLine__init c_NoLine__init k_NoLine__init g_NoLine__init, def_mk X G a__law_made l__law_made c__law_made k__law_made, def_mk X G a__law_of l__law_of c__law_of k__law_of, def_mk X G a_law l_law c_law k_law⟩
end
end Q90
end
end

section
set_option Elab.async false
set_option linter.all false
set_option maxRecDepth 100000
set_option maxHeartbeats 2000000
namespace Q90
open PySem PySem.Spec PyProof.Rows L2
abbrev I (n : Int) : CD := .d (.int n)
theorem at0 {M : Sto} {L : List Cell} : ∀ k : Nat, (M ++ L)[M.length + k]? = L[k]? := fun k => by
  rw [List.getElem?_append_right (Nat.le_add_right _ _), Nat.add_sub_cancel_left]
theorem set0 {M : Sto} {L : List Cell} {c : Cell} : ∀ k : Nat, (M ++ L).set (M.length + k) c = M ++ L.set k c := fun k => by
  rw [List.set_append_right _ _ (Nat.le_add_right _ _), Nat.add_sub_cancel_left]
def S1 (n : CD) : List Cell := [.exc true "NoWeight" [], .exc true "NoPlace" [], .exc true "NoTie" [("at", n)], .exc true "TooMany" [("most", n)], .exc true "NoSide" [], .exc true "NoFlow" [], .exc true "NotGreatest" [], .exc true "NoTree" []]
def S2 (n : CD) : List Cell := [.exc true "OnePlace" [], .exc true "InPieces" [], .exc true "NoChart" [], .exc true "NoGroups" [], .exc true "NoDemand" [], .exc true "NoLine" [("at", n)], .exc true "NotThere" []]
def cs (b n : Nat) : List CD := (List.range n).map fun i => .c (b + i)
theorem mk_tie {M : Sto} {n : CD} : F_NoTie__init [.c M.length, n] (M ++ [.exc true "NoTie" []]) = some (.d .none, M ++ [.exc true "NoTie" [("at", n)]]) := by
  have h1 := at0 (M := M) (L := [.exc true "NoTie" []]) 0
  have h2 := set0 (M := M) (L := [.exc true "NoTie" []]) (c := .exc true "NoTie" [("at", n)]) 0
  rw [Nat.add_zero] at h1 h2
  simp [F_NoTie__init, m_NoTie__init, sXFldF, excOf, h1, h2, fnF, fnX, sSeqX, sIfX, sRetX, sDropX, sAsgX, xCall, aThen, xThen, liA, liE, liS, sRaise, sTry, hRun, unbO, unbG, setG, fIsiX, fCallX, sSeq, sIf, sRet, sRetN, sNext, sAsg, sDrop, hName, hTup, hCons, hNil, hSub, gOr, gAnd, gNot, gB, gTru, truF, fCall, fCons, fNil, fVar, fC, fOp, fUn, fAnd, fOr, fNot, fIf, fChain, asB, fTup, fLst, fNew, allD, fIsi, fIsi2, pI, ifS, addI, subI, mulI, fdivI, modI, powI, ltI, leI, gtI, geI, Option.bind_some, Option.bind_none, Option.map_some, List.getElem?_cons_zero, List.getElem?_cons_succ, List.length_cons, List.length_nil, List.set_cons_zero, List.set_cons_succ, List.map_cons, List.map_nil, List.replicate_zero, List.replicate_succ, List.cons_append, List.nil_append, List.append_nil, if_true, ite_true, ite_false, Nat.reduceAdd, Nat.reduceSub, reduceIte, Bool.not_true, Bool.not_false, Bool.false_eq_true]
theorem mk_many {M : Sto} {n : CD} : F_TooMany__init [.c M.length, n] (M ++ [.exc true "TooMany" []]) = some (.d .none, M ++ [.exc true "TooMany" [("most", n)]]) := by
  have h1 := at0 (M := M) (L := [.exc true "TooMany" []]) 0
  have h2 := set0 (M := M) (L := [.exc true "TooMany" []]) (c := .exc true "TooMany" [("most", n)]) 0
  rw [Nat.add_zero] at h1 h2
  simp [F_TooMany__init, m_TooMany__init, sXFldF, excOf, h1, h2, fnF, fnX, sSeqX, sIfX, sRetX, sDropX, sAsgX, xCall, aThen, xThen, liA, liE, liS, sRaise, sTry, hRun, unbO, unbG, setG, fIsiX, fCallX, sSeq, sIf, sRet, sRetN, sNext, sAsg, sDrop, hName, hTup, hCons, hNil, hSub, gOr, gAnd, gNot, gB, gTru, truF, fCall, fCons, fNil, fVar, fC, fOp, fUn, fAnd, fOr, fNot, fIf, fChain, asB, fTup, fLst, fNew, allD, fIsi, fIsi2, pI, ifS, addI, subI, mulI, fdivI, modI, powI, ltI, leI, gtI, geI, Option.bind_some, Option.bind_none, Option.map_some, List.getElem?_cons_zero, List.getElem?_cons_succ, List.length_cons, List.length_nil, List.set_cons_zero, List.set_cons_succ, List.map_cons, List.map_nil, List.replicate_zero, List.replicate_succ, List.cons_append, List.nil_append, List.append_nil, if_true, ite_true, ite_false, Nat.reduceAdd, Nat.reduceSub, reduceIte, Bool.not_true, Bool.not_false, Bool.false_eq_true]
theorem mk_line {M : Sto} {n : CD} : F_NoLine__init [.c M.length, n] (M ++ [.exc true "NoLine" []]) = some (.d .none, M ++ [.exc true "NoLine" [("at", n)]]) := by
  have h1 := at0 (M := M) (L := [.exc true "NoLine" []]) 0
  have h2 := set0 (M := M) (L := [.exc true "NoLine" []]) (c := .exc true "NoLine" [("at", n)]) 0
  rw [Nat.add_zero] at h1 h2
  simp [F_NoLine__init, m_NoLine__init, sXFldF, excOf, h1, h2, fnF, fnX, sSeqX, sIfX, sRetX, sDropX, sAsgX, xCall, aThen, xThen, liA, liE, liS, sRaise, sTry, hRun, unbO, unbG, setG, fIsiX, fCallX, sSeq, sIf, sRet, sRetN, sNext, sAsg, sDrop, hName, hTup, hCons, hNil, hSub, gOr, gAnd, gNot, gB, gTru, truF, fCall, fCons, fNil, fVar, fC, fOp, fUn, fAnd, fOr, fNot, fIf, fChain, asB, fTup, fLst, fNew, allD, fIsi, fIsi2, pI, ifS, addI, subI, mulI, fdivI, modI, powI, ltI, leI, gtI, geI, Option.bind_some, Option.bind_none, Option.map_some, List.getElem?_cons_zero, List.getElem?_cons_succ, List.length_cons, List.length_nil, List.set_cons_zero, List.set_cons_succ, List.map_cons, List.map_nil, List.replicate_zero, List.replicate_succ, List.cons_append, List.nil_append, List.append_nil, if_true, ite_true, ite_false, Nat.reduceAdd, Nat.reduceSub, reduceIte, Bool.not_true, Bool.not_false, Bool.false_eq_true]
theorem allD_map : ∀ ds : List PyData, allD (ds.map .d) = some ds
  | [] => rfl
  | d :: ds => by
    show (allD (ds.map .d)).map (d :: ·) = _
    rw [allD_map ds]
    rfl
def c1 (b : Nat) : List CD := [.c b, .c (b + 1), .c (b + 2), .c (b + 3), .c (b + 4), .c (b + 5), .c (b + 6), .c (b + 7)]
def c2 (b : Nat) : List CD := [.c (b + 9), .c (b + 10), .c (b + 11), .c (b + 12), .c (b + 13), .c (b + 14), .c (b + 15)]
def SL (b : Nat) (n : CD) : List Cell := S1 n ++ .lst (c1 b) :: S2 n ++ [.lst (c2 b), .lst (c1 b ++ c2 b)]
theorem addY_c {i j : Nat} {xs ys : List CD} {M : Sto} (hi : M[i]? = some (.lst xs)) (hj : M[j]? = some (.lst ys)) (h0 : allD (xs ++ ys) = none) (hl : xs.length + ys.length ≤ sizeLine) : addY (.c i) (.c j) M = some (.c M.length, M ++ [.lst (xs ++ ys)]) := by
  have l1 : lstOf M (.c i) = some xs := by simp only [lstOf, hi]
  have l2 : lstOf M (.c j) = some ys := by simp only [lstOf, hj]
  have e1 : addX (.c i) (.c j) M = none := by
    have : catL (.c i) (.c j) M = none := by unfold catL; rw [l1, l2, Option.bind_some, Option.bind_some, h0]; rfl
    unfold addX orF2
    rw [show addI (.c i) (.c j) M = none from rfl, this]
    rfl
  unfold addY orF2
  rw [e1]
  show catC (.c i) (.c j) M = _
  unfold catC
  rw [l1, l2, Option.bind_some, Option.bind_some, if_pos hl]
theorem made {M : Sto} {n : CD} : F__law_made [n] M = some (.c (M.length + 17), M ++ SL M.length n) := by
  have z1 : ∀ {N : Sto} {x : Option CD}, fMakeX "NoTie" F_NoTie__init (fCons (fVar 0) fNil) [some n, x] N = some (.c N.length, N ++ [.exc true "NoTie" [("at", n)]]) := fun {N x} => by
    simp [fMakeX, mk_tie, fnF, fnX, sSeqX, sIfX, sRetX, sDropX, sAsgX, xCall, aThen, xThen, liA, liE, liS, sRaise, sTry, hRun, unbO, unbG, setG, fIsiX, fCallX, sSeq, sIf, sRet, sRetN, sNext, sAsg, sDrop, hName, hTup, hCons, hNil, hSub, gOr, gAnd, gNot, gB, gTru, truF, fCall, fCons, fNil, fVar, fC, fOp, fUn, fAnd, fOr, fNot, fIf, fChain, asB, fTup, fLst, fNew, allD, fIsi, fIsi2, pI, ifS, addI, subI, mulI, fdivI, modI, powI, ltI, leI, gtI, geI, Option.bind_some, Option.bind_none, Option.map_some, List.getElem?_cons_zero, List.getElem?_cons_succ, List.length_cons, List.length_nil, List.set_cons_zero, List.set_cons_succ, List.map_cons, List.map_nil, List.replicate_zero, List.replicate_succ, List.cons_append, List.nil_append, List.append_nil, if_true, ite_true, ite_false, Nat.reduceAdd, Nat.reduceSub, reduceIte, Bool.not_true, Bool.not_false, Bool.false_eq_true, isNon, sizeLine_eq]
  have z2 : ∀ {N : Sto} {x : Option CD}, fMakeX "TooMany" F_TooMany__init (fCons (fVar 0) fNil) [some n, x] N = some (.c N.length, N ++ [.exc true "TooMany" [("most", n)]]) := fun {N x} => by
    simp [fMakeX, mk_many, fnF, fnX, sSeqX, sIfX, sRetX, sDropX, sAsgX, xCall, aThen, xThen, liA, liE, liS, sRaise, sTry, hRun, unbO, unbG, setG, fIsiX, fCallX, sSeq, sIf, sRet, sRetN, sNext, sAsg, sDrop, hName, hTup, hCons, hNil, hSub, gOr, gAnd, gNot, gB, gTru, truF, fCall, fCons, fNil, fVar, fC, fOp, fUn, fAnd, fOr, fNot, fIf, fChain, asB, fTup, fLst, fNew, allD, fIsi, fIsi2, pI, ifS, addI, subI, mulI, fdivI, modI, powI, ltI, leI, gtI, geI, Option.bind_some, Option.bind_none, Option.map_some, List.getElem?_cons_zero, List.getElem?_cons_succ, List.length_cons, List.length_nil, List.set_cons_zero, List.set_cons_succ, List.map_cons, List.map_nil, List.replicate_zero, List.replicate_succ, List.cons_append, List.nil_append, List.append_nil, if_true, ite_true, ite_false, Nat.reduceAdd, Nat.reduceSub, reduceIte, Bool.not_true, Bool.not_false, Bool.false_eq_true, isNon, sizeLine_eq]
  have z3 : ∀ {N : Sto} {x : Option CD}, fMakeX "NoLine" F_NoLine__init (fCons (fVar 0) fNil) [some n, x] N = some (.c N.length, N ++ [.exc true "NoLine" [("at", n)]]) := fun {N x} => by
    simp [fMakeX, mk_line, fnF, fnX, sSeqX, sIfX, sRetX, sDropX, sAsgX, xCall, aThen, xThen, liA, liE, liS, sRaise, sTry, hRun, unbO, unbG, setG, fIsiX, fCallX, sSeq, sIf, sRet, sRetN, sNext, sAsg, sDrop, hName, hTup, hCons, hNil, hSub, gOr, gAnd, gNot, gB, gTru, truF, fCall, fCons, fNil, fVar, fC, fOp, fUn, fAnd, fOr, fNot, fIf, fChain, asB, fTup, fLst, fNew, allD, fIsi, fIsi2, pI, ifS, addI, subI, mulI, fdivI, modI, powI, ltI, leI, gtI, geI, Option.bind_some, Option.bind_none, Option.map_some, List.getElem?_cons_zero, List.getElem?_cons_succ, List.length_cons, List.length_nil, List.set_cons_zero, List.set_cons_succ, List.map_cons, List.map_nil, List.replicate_zero, List.replicate_succ, List.cons_append, List.nil_append, List.append_nil, if_true, ite_true, ite_false, Nat.reduceAdd, Nat.reduceSub, reduceIte, Bool.not_true, Bool.not_false, Bool.false_eq_true, isNon, sizeLine_eq]
  have q := addY_c (i := M.length + 8) (j := M.length + 16) (M := M ++ (S1 n ++ .lst (c1 M.length) :: S2 n ++ [.lst (c2 M.length)])) (xs := c1 M.length) (ys := c2 M.length) (at0 8) (at0 16) rfl (by rw [sizeLine_eq]; show 15 ≤ _; decide)
  simp only [S1, S2, c1, c2, List.cons_append, List.nil_append] at q
  simp [F__law_made, m__law_made, z1, z2, z3, fMakeX0, fnF, fnX, sSeqX, sIfX, sRetX, sDropX, sAsgX, xCall, aThen, xThen, liA, liE, liS, sRaise, sTry, hRun, unbO, unbG, setG, fIsiX, fCallX, sSeq, sIf, sRet, sRetN, sNext, sAsg, sDrop, hName, hTup, hCons, hNil, hSub, gOr, gAnd, gNot, gB, gTru, truF, fCall, fCons, fNil, fVar, fC, fOp, fUn, fAnd, fOr, fNot, fIf, fChain, asB, fTup, fLst, fNew, allD, fIsi, fIsi2, pI, ifS, addI, subI, mulI, fdivI, modI, powI, ltI, leI, gtI, geI, Option.bind_some, Option.bind_none, Option.map_some, List.getElem?_cons_zero, List.getElem?_cons_succ, List.length_cons, List.length_nil, List.set_cons_zero, List.set_cons_succ, List.map_cons, List.map_nil, List.replicate_zero, List.replicate_succ, List.cons_append, List.nil_append, List.append_nil, if_true, ite_true, ite_false, Nat.reduceAdd, Nat.reduceSub, reduceIte, Bool.not_true, Bool.not_false, Bool.false_eq_true, sizeLine_eq]
  simp only [Nat.add_assoc, Nat.reduceAdd]
  rw [q]
  simp [SL, S1, S2, c1, c2]
def nms : List Str := ["NoWeight", "NoPlace", "NoTie", "TooMany", "NoSide", "NoFlow", "NotGreatest", "NoTree", "OnePlace", "InPieces", "NoChart", "NoGroups", "NoDemand", "NoLine", "NotThere"]
theorem addX_l {xs ys : List PyData} {M : Sto} (hl : (xs ++ ys).length ≤ sizeLine) : addX (.d (.list xs)) (.d (.list ys)) M = some (.d (.list (xs ++ ys)), M) := by
  have : catL (.d (.list xs)) (.d (.list ys)) M = some (.d (.list (xs ++ ys)), M) := by
    unfold catL
    rw [show lstOf M (.d (.list xs)) = some (xs.map .d) from rfl, show lstOf M (.d (.list ys)) = some (ys.map .d) from rfl, Option.bind_some, Option.bind_some, ← List.map_append, allD_map, Option.bind_some, if_pos hl]
  unfold addX orF2
  rw [show addI (.d (.list xs)) (.d (.list ys)) M = none from rfl, this]
theorem of_ {M : Sto} {i : Nat} {fs : List (Str × CD)} {nm : Str} {b0 b1 b2 b3 b4 b5 b6 b7 b8 b9 b10 b11 b12 b13 b14 : Bool} (h : M[i]? = some (.exc true nm fs)) (l0 : TB_NoWeight.lookup nm = some b0) (l1 : TB_NoPlace.lookup nm = some b1) (l2 : TB_NoTie.lookup nm = some b2) (l3 : TB_TooMany.lookup nm = some b3) (l4 : TB_NoSide.lookup nm = some b4) (l5 : TB_NoFlow.lookup nm = some b5) (l6 : TB_NotGreatest.lookup nm = some b6) (l7 : TB_NoTree.lookup nm = some b7) (l8 : TB_OnePlace.lookup nm = some b8) (l9 : TB_InPieces.lookup nm = some b9) (l10 : TB_NoChart.lookup nm = some b10) (l11 : TB_NoGroups.lookup nm = some b11) (l12 : TB_NoDemand.lookup nm = some b12) (l13 : TB_NoLine.lookup nm = some b13) (l14 : TB_NotThere.lookup nm = some b14) : F__law_of [.c i] M = some (.d (.list [.bool b0, .bool b1, .bool b2, .bool b3, .bool b4, .bool b5, .bool b6, .bool b7, .bool b8, .bool b9, .bool b10, .bool b11, .bool b12, .bool b13, .bool b14]), M) := by
  have sz : ∀ n : Nat, n ≤ 15 → n ≤ sizeLine := fun n hn => by rw [sizeLine_eq]; exact Nat.le_trans hn (by decide)
  have a1 : addX (.d (.list [.bool b0, .bool b1, .bool b2])) (.d (.list [.bool b3, .bool b4, .bool b5])) M = some (.d (.list [.bool b0, .bool b1, .bool b2, .bool b3, .bool b4, .bool b5]), M) := addX_l (sz 6 (by decide))
  have a2 : addX (.d (.list [.bool b0, .bool b1, .bool b2, .bool b3, .bool b4, .bool b5])) (.d (.list [.bool b6, .bool b7, .bool b8])) M = some (.d (.list [.bool b0, .bool b1, .bool b2, .bool b3, .bool b4, .bool b5, .bool b6, .bool b7, .bool b8]), M) := addX_l (sz 9 (by decide))
  have a3 : addX (.d (.list [.bool b0, .bool b1, .bool b2, .bool b3, .bool b4, .bool b5, .bool b6, .bool b7, .bool b8])) (.d (.list [.bool b9, .bool b10, .bool b11])) M = some (.d (.list [.bool b0, .bool b1, .bool b2, .bool b3, .bool b4, .bool b5, .bool b6, .bool b7, .bool b8, .bool b9, .bool b10, .bool b11]), M) := addX_l (sz 12 (by decide))
  have a4 : addX (.d (.list [.bool b0, .bool b1, .bool b2, .bool b3, .bool b4, .bool b5, .bool b6, .bool b7, .bool b8, .bool b9, .bool b10, .bool b11])) (.d (.list [.bool b12, .bool b13, .bool b14])) M = some (.d (.list [.bool b0, .bool b1, .bool b2, .bool b3, .bool b4, .bool b5, .bool b6, .bool b7, .bool b8, .bool b9, .bool b10, .bool b11, .bool b12, .bool b13, .bool b14]), M) := addX_l (sz 15 (by decide))
  simp only [F__law_of, m__law_of, fnF, fnX, sSeqX, sIfX, sRetX, sDropX, sAsgX, xCall, aThen, xThen, liA, liE, liS, sRaise, sTry, hRun, unbO, unbG, setG, fIsiX, fCallX, sSeq, sIf, sRet, sRetN, sNext, sAsg, sDrop, hName, hTup, hCons, hNil, hSub, gOr, gAnd, gNot, gB, gTru, truF, fCall, fCons, fNil, fVar, fC, fOp, fUn, fAnd, fOr, fNot, fIf, fChain, asB, fTup, fLst, fNew, allD, fIsi, fIsi2, pI, ifS, addI, subI, mulI, fdivI, modI, powI, ltI, leI, gtI, geI, Option.bind_some, Option.bind_none, Option.map_some, List.getElem?_cons_zero, List.getElem?_cons_succ, List.length_cons, List.length_nil, List.set_cons_zero, List.set_cons_succ, List.map_cons, List.map_nil, List.replicate_zero, List.replicate_succ, List.cons_append, List.nil_append, List.append_nil, if_true, ite_true, ite_false, Nat.reduceAdd, Nat.reduceSub, reduceIte, Bool.not_true, Bool.not_false, Bool.false_eq_true, h, l0, l1, l2, l3, l4, l5, l6, l7, l8, l9, l10, l11, l12, l13, l14, sz 3 (by decide), Nat.zero_add, a1, a2, a3, a4]
/-- the j-th thing made, and what it is of -/
theorem each {j : Nat} (hj : j < 15) {M M2 : Sto} {n : CD} : ∃ (nm : Str) (fs : List (Str × CD)), ((c1 M.length ++ c2 M.length)[j]? = some (.c (M.length + (if j < 8 then j else j + 1)))) ∧ (M ++ (SL M.length n ++ M2))[M.length + (if j < 8 then j else j + 1)]? = some (.exc true nm fs) ∧ TB_CutError.lookup nm = some true ∧ TB_ValueError.lookup nm = some true ∧
    ∀ (N : Sto) (i : Nat), N[i]? = some (.exc true nm fs) → F__law_of [.c i] N = some (.d (.list ((List.range 15).map fun k => .bool (k == j))), N) := by
  match j, hj with
  | 0, _ => exact ⟨_, _, rfl, at0 _, rfl, rfl, fun N i h => of_ h rfl rfl rfl rfl rfl rfl rfl rfl rfl rfl rfl rfl rfl rfl rfl⟩
  | 1, _ => exact ⟨_, _, rfl, at0 _, rfl, rfl, fun N i h => of_ h rfl rfl rfl rfl rfl rfl rfl rfl rfl rfl rfl rfl rfl rfl rfl⟩
  | 2, _ => exact ⟨_, _, rfl, at0 _, rfl, rfl, fun N i h => of_ h rfl rfl rfl rfl rfl rfl rfl rfl rfl rfl rfl rfl rfl rfl rfl⟩
  | 3, _ => exact ⟨_, _, rfl, at0 _, rfl, rfl, fun N i h => of_ h rfl rfl rfl rfl rfl rfl rfl rfl rfl rfl rfl rfl rfl rfl rfl⟩
  | 4, _ => exact ⟨_, _, rfl, at0 _, rfl, rfl, fun N i h => of_ h rfl rfl rfl rfl rfl rfl rfl rfl rfl rfl rfl rfl rfl rfl rfl⟩
  | 5, _ => exact ⟨_, _, rfl, at0 _, rfl, rfl, fun N i h => of_ h rfl rfl rfl rfl rfl rfl rfl rfl rfl rfl rfl rfl rfl rfl rfl⟩
  | 6, _ => exact ⟨_, _, rfl, at0 _, rfl, rfl, fun N i h => of_ h rfl rfl rfl rfl rfl rfl rfl rfl rfl rfl rfl rfl rfl rfl rfl⟩
  | 7, _ => exact ⟨_, _, rfl, at0 _, rfl, rfl, fun N i h => of_ h rfl rfl rfl rfl rfl rfl rfl rfl rfl rfl rfl rfl rfl rfl rfl⟩
  | 8, _ => exact ⟨_, _, rfl, at0 _, rfl, rfl, fun N i h => of_ h rfl rfl rfl rfl rfl rfl rfl rfl rfl rfl rfl rfl rfl rfl rfl⟩
  | 9, _ => exact ⟨_, _, rfl, at0 _, rfl, rfl, fun N i h => of_ h rfl rfl rfl rfl rfl rfl rfl rfl rfl rfl rfl rfl rfl rfl rfl⟩
  | 10, _ => exact ⟨_, _, rfl, at0 _, rfl, rfl, fun N i h => of_ h rfl rfl rfl rfl rfl rfl rfl rfl rfl rfl rfl rfl rfl rfl rfl⟩
  | 11, _ => exact ⟨_, _, rfl, at0 _, rfl, rfl, fun N i h => of_ h rfl rfl rfl rfl rfl rfl rfl rfl rfl rfl rfl rfl rfl rfl rfl⟩
  | 12, _ => exact ⟨_, _, rfl, at0 _, rfl, rfl, fun N i h => of_ h rfl rfl rfl rfl rfl rfl rfl rfl rfl rfl rfl rfl rfl rfl rfl⟩
  | 13, _ => exact ⟨_, _, rfl, at0 _, rfl, rfl, fun N i h => of_ h rfl rfl rfl rfl rfl rfl rfl rfl rfl rfl rfl rfl rfl rfl rfl⟩
  | 14, _ => exact ⟨_, _, rfl, at0 _, rfl, rfl, fun N i h => of_ h rfl rfl rfl rfl rfl rfl rfl rfl rfl rfl rfl rfl rfl rfl rfl⟩
end Q90

end

section
set_option Elab.async false
set_option linter.all false
set_option maxRecDepth 100000
set_option maxHeartbeats 2000000
namespace Q90
open PySem PySem.Spec PyProof.Rows L2
theorem fLc_of {cap : List (Option Nat)} {f : AF} {g : GF} {c : TF} {ee : EF} {γ : Ga} {M M1 M2 : Sto} {xs : List CD} {ds : List PyData} (it : f γ M = some (xs, M1)) (hl : xs.length ≤ sizeLine) (e : lcF g c ee xs (capG cap γ) M1 = some (ds.map .d, M2)) (hd : ds.length ≤ sizeLine) : fLc cap f g c ee γ M = some (.d (.list ds), M2) := by
  have h1 : lcRun cap f g c ee γ M = some (ds.map .d, M2) := by
    unfold lcRun
    rw [it, Option.bind_some, if_pos hl]
    exact e
  show (lcRun cap f g c ee γ M).bind _ = _
  rw [h1, Option.bind_some, allD_map, Option.bind_some, if_pos hd]
theorem sFor_of {f : AF} {g : GF} {b : SF} {γ : Ga} {M M1 : Sto} {xs : List CD} {r : Option (Out × Sto)} (it : f γ M = some (xs, M1)) (e : forF g b xs γ M1 = r) : sFor f g b γ M = r := by
  unfold sFor
  rw [it, Option.bind_some]
  exact e
theorem forF_inv {g : GF} {b : SF} (Inv : Ga → Sto → Prop) : ∀ xs : List CD, (∀ x ∈ xs, ∀ γ M, Inv γ M → ∃ γ1 M1 γ' M', g x γ M = some (γ1, M1) ∧ b γ1 M1 = some (.nx γ', M') ∧ Inv γ' M') → ∀ γ M, Inv γ M → ∃ γ' M', forF g b xs γ M = some (.nx γ', M') ∧ Inv γ' M'
  | [], _, γ, M, h => ⟨γ, M, rfl, h⟩
  | x :: xs, hs, γ, M, h => by
    obtain ⟨γ1, M1, γ2, M2, e1, e2, h2⟩ := hs x List.mem_cons_self γ M h
    obtain ⟨γ', M', e3, h3⟩ := forF_inv Inv xs (fun y hy => hs y (List.mem_cons_of_mem _ hy)) γ2 M2 h2
    refine ⟨γ', M', ?_, h3⟩
    unfold forF
    rw [e1, Option.bind_some]
    dsimp only
    rw [e2, Option.bind_some]
    exact e3
theorem rng_mem {lo : Int} {n : Nat} {x : CD} (h : x ∈ rngD lo n) : ∃ j : Nat, j < n ∧ x = I (lo + j) := by
  unfold rngD at h
  obtain ⟨j, hj, rfl⟩ := List.mem_map.mp h
  exact ⟨j, List.mem_range.mp hj, rfl⟩
theorem sz {n : Nat} (hn : n ≤ 100) : n ≤ sizeLine := by rw [sizeLine_eq]; exact Nat.le_trans hn (by decide)
def row (j : Nat) : List PyData := (List.range 15).map fun k => .bool (k == j)
theorem eqII {i j : Int} {M : Sto} : eqX false (I i) (I j) M = some (.d (.bool (i == j)), M) := rfl
theorem loop {M : Sto} {j : Nat} : ∀ (ks : List Nat) (s : Option CD), lcF (hName 1) gYes (fOp (eqX false) (fVar 1) (fVar 0)) (ks.map fun (k : Nat) => I (0 + (k : Int))) [some (I (0 + (j : Int))), s] M = some ((ks.map fun k => PyData.bool (k == j)).map .d, M)
  | [], _ => rfl
  | k :: ks, s => by
    have ih := loop (M := M) (j := j) ks (some (I (0 + (k : Int))))
    have e : ((0 + (k : Int)) == (0 + (j : Int))) = (k == j) := by
      rw [Int.zero_add, Int.zero_add]
      by_cases h : k = j
      · subst h; simp
      · have : ¬ (k : Int) = (j : Int) := fun q => h (Int.ofNat_inj.mp q)
        rw [beq_eq_false_iff_ne.mpr h, beq_eq_false_iff_ne.mpr this]
    show (Option.bind (eqX false (I (0 + (k : Int))) (I (0 + (j : Int))) M) fun r => (lcF (hName 1) gYes (fOp (eqX false) (fVar 1) (fVar 0)) (ks.map fun (k : Nat) => I (0 + (k : Int))) [some (I (0 + (j : Int))), some (I (0 + (k : Int)))] r.2).bind fun q => some (r.1 :: q.1, q.2)) = _
    rw [eqII, e, Option.bind_some]
    show (Option.bind (lcF (hName 1) gYes (fOp (eqX false) (fVar 1) (fVar 0)) (ks.map fun (k : Nat) => I (0 + (k : Int))) [some (I (0 + (j : Int))), some (I (0 + (k : Int)))] M) _) = _
    rw [ih]
    rfl
theorem comp {a b c d : Option CD} {M : Sto} {j : Nat} : C_law_0 [a, b, c, d, some (I (0 + (j : Int)))] M = some (.d (.list (row j)), M) := by
  unfold C_law_0
  exact fLc_of (xs := (List.range 15).map fun (k : Nat) => I (0 + (k : Int))) (M1 := M) rfl (sz (by decide)) (loop _ _) (sz (by rw [row, List.length_map]; decide))
theorem same {j : Nat} (hj : j < 15) {M : Sto} : eqX true (.d (.list (row j))) (.d (.list (row j))) M = some (.d (.bool false), M) := by
  match j, hj with
  | 0, _ => rfl
  | 1, _ => rfl
  | 2, _ => rfl
  | 3, _ => rfl
  | 4, _ => rfl
  | 5, _ => rfl
  | 6, _ => rfl
  | 7, _ => rfl
  | 8, _ => rfl
  | 9, _ => rfl
  | 10, _ => rfl
  | 11, _ => rfl
  | 12, _ => rfl
  | 13, _ => rfl
  | 14, _ => rfl
theorem atI_nat {α : Type} {xs : List α} {j : Nat} {x : α} (h : xs[j]? = some x) : atI xs (j : Int) = some x := by
  have lt : j < xs.length := (List.getElem?_eq_some_iff.mp h).1
  refine atI_mk ?_ h
  unfold ixN
  rw [if_pos (Int.natCast_nonneg j), if_pos (Int.ofNat_lt.mpr lt), Int.toNat_natCast]
theorem ix {i : Nat} {xs : List CD} {M : Sto} {j : Nat} {x : CD} (h : M[i]? = some (.lst xs)) (hx : xs[j]? = some x) : ixF (.c i) (I (0 + (j : Int))) M = some (x, M) := by
  have : atI xs (0 + (j : Int)) = some x := by
    rw [Int.zero_add]
    exact atI_nat hx
  simp only [ixF, h, this, Option.bind_some]
theorem turn0 {a b c : Option CD} {M : Sto} {n : CD} {j : Nat} (hj : j < 15) : L_law_0 [a, b, c, some (.c (M.length + 17)), some (I (0 + (j : Int)))] (M ++ SL M.length n) = some (.nx [a, b, c, some (.c (M.length + 17)), some (I (0 + (j : Int)))], M ++ SL M.length n) := by
  obtain ⟨nm, fs, h1, h2, h3, h4, h5⟩ := each hj (M := M) (M2 := []) (n := n)
  rw [List.append_nil] at h2
  have l0 : (M ++ SL M.length n)[M.length + 17]? = some (.lst (c1 M.length ++ c2 M.length)) := at0 17
  have e1 := ix l0 h1
  have e2 := h5 _ _ h2
  have e3 := comp (a := a) (b := b) (c := c) (d := some (.c (M.length + 17))) (M := M ++ SL M.length n) (j := j)
  have e4 := same (M := M ++ SL M.length n) hj
  simp only [row] at e4 e3
  simp only [L_law_0, fnF, fnX, sSeqX, sIfX, sRetX, sDropX, sAsgX, xCall, aThen, xThen, liA, liE, liS, sRaise, sTry, hRun, unbO, unbG, setG, fIsiX, fCallX, sSeq, sIf, sRet, sRetN, sNext, sAsg, sDrop, hName, hTup, hCons, hNil, hSub, gOr, gAnd, gNot, gB, gTru, truF, fCall, fCons, fNil, fVar, fC, fOp, fUn, fAnd, fOr, fNot, fIf, fChain, asB, fTup, fLst, fNew, allD, fIsi, fIsi2, pI, ifS, addI, subI, mulI, fdivI, modI, powI, ltI, leI, gtI, geI, Option.bind_some, Option.bind_none, Option.map_some, List.getElem?_cons_zero, List.getElem?_cons_succ, List.length_cons, List.length_nil, List.set_cons_zero, List.set_cons_succ, List.map_cons, List.map_nil, List.replicate_zero, List.replicate_succ, List.cons_append, List.nil_append, List.append_nil, if_true, ite_true, ite_false, Nat.reduceAdd, Nat.reduceSub, reduceIte, Bool.not_true, Bool.not_false, Bool.false_eq_true, e1, h2, h3, h4, e2, e3, e4]
end Q90

end

section
set_option Elab.async false
set_option linter.all false
set_option maxRecDepth 100000
set_option maxHeartbeats 2000000
namespace Q90
open PySem PySem.Spec PyProof.Rows L2
theorem eqv_int (n : Int) : PyData.eqv (.list [.int n, .int n, .int n]) (.list [.int n, .int n, .int n]) = true := by
  simp [PyData.eqv, PyData.eqvAll]
theorem ne3 {n : Int} {M : Sto} : eqX true (.d (.list [.int n, .int n, .int n])) (.d (.list [.int n, .int n, .int n])) M = some (.d (.bool false), M) := by
  have h : eqX true (.d (.list [.int n, .int n, .int n])) (.d (.list [.int n, .int n, .int n])) M = some (.d (.bool (!PyData.eqv (.list [.int n, .int n, .int n]) (.list [.int n, .int n, .int n]))), M) := rfl
  rw [h, eqv_int]; rfl
theorem mul3 {n : Int} {M : Sto} {i : Nat} (h : M[i]? = some (.lst [I n])) : mulY (.c i) (.d (.int 3)) M = some (.d (.list [.int n, .int n, .int n]), M) := by
  have : mulL (.c i) (.d (.int 3)) M = some (.d (.list [.int n, .int n, .int n]), M) := by
    unfold mulL
    simp only [h]
    rw [show allD [I n] = some [.int n] from rfl, Option.bind_some, if_pos ⟨by decide, by decide, sz (by show 1 * 3 ≤ _; decide)⟩]
    rfl
  unfold mulY orF2
  rw [show mulI (.c i) (.d (.int 3)) M = none from rfl, this]
theorem turn1 {a b x y : Option CD} {n : Int} {M : Sto} : ∃ x' y' M', L_law_1 [a, b, some (I n), x, y] M = some (.nx [a, b, some (I n), x', y'], M') := by
  have e1 := made (M := M) (n := I n)
  obtain ⟨γ2, M2, e2, ⟨y', rfl⟩, rfl⟩ := forF_inv (g := hName 4) (b := L_law_0) (fun γ M' => (∃ y', γ = [a, b, some (I n), some (.c (M.length + 17)), y']) ∧ M' = M ++ SL M.length (I n)) (rngD 0 15) (fun x hx γ M' ⟨⟨y', hγ⟩, hM⟩ => by
      subst hγ hM
      obtain ⟨j, hj, rfl⟩ := rng_mem hx
      exact ⟨_, _, _, _, rfl, turn0 hj, ⟨_, rfl⟩, rfl⟩) [a, b, some (I n), some (.c (M.length + 17)), y] _ ⟨⟨_, rfl⟩, rfl⟩
  have it : fRng1 (fCons (fC (.int 15)) fNil) [a, b, some (I n), some (.c (M.length + 17)), y] (M ++ SL M.length (I n)) = some (rngD 0 15, M ++ SL M.length (I n)) := rfl
  have f5 := sFor_of it e2
  have l0 : (M ++ SL M.length (I n))[M.length + 17]? = some (.lst (c1 M.length ++ c2 M.length)) := at0 17
  have i1 : ixF (.c (M.length + 17)) (.d (.int 2)) (M ++ SL M.length (I n)) = some (.c (M.length + 2), M ++ SL M.length (I n)) := ix (j := 2) l0 rfl
  have i2 : ixF (.c (M.length + 17)) (.d (.int 3)) (M ++ SL M.length (I n)) = some (.c (M.length + 3), M ++ SL M.length (I n)) := ix (j := 3) l0 rfl
  have i3 : ixF (.c (M.length + 17)) (.d (.int 13)) (M ++ SL M.length (I n)) = some (.c (M.length + 14), M ++ SL M.length (I n)) := ix (j := 13) l0 rfl
  have m1 : (M ++ SL M.length (I n))[M.length + 2]? = some (.exc true "NoTie" [("at", I n)]) := at0 2
  have m2 : (M ++ SL M.length (I n))[M.length + 3]? = some (.exc true "TooMany" [("most", I n)]) := at0 3
  have m3 : (M ++ SL M.length (I n))[M.length + 14]? = some (.exc true "NoLine" [("at", I n)]) := at0 14
  have q3 := mul3 (n := n) (M := M ++ SL M.length (I n) ++ [.lst [I n]]) (i := (M ++ SL M.length (I n)).length) (by have := at0 (M := M ++ SL M.length (I n)) (L := [.lst [I n]]) 0; rw [Nat.add_zero] at this; exact this)
  have hx : ("NoLine" : Str) ∈ (["NoTie", "NoLine"] : List Str) := by decide
  have hy : ("NoTie" : Str) ∈ (["NoTie", "NoLine"] : List Str) := by decide
  have hz : ("TooMany" : Str) ∈ (["TooMany"] : List Str) := by decide
  refine ⟨some (.c (M.length + 17)), y', M ++ SL M.length (I n) ++ [.lst [I n]], ?_⟩
  simp only [L_law_1, fnF, fnX, sSeqX, sIfX, sRetX, sDropX, sAsgX, xCall, aThen, xThen, liA, liE, liS, sRaise, sTry, hRun, unbO, unbG, setG, fIsiX, fCallX, sSeq, sIf, sRet, sRetN, sNext, sAsg, sDrop, hName, hTup, hCons, hNil, hSub, gOr, gAnd, gNot, gB, gTru, truF, fCall, fCons, fNil, fVar, fC, fOp, fUn, fAnd, fOr, fNot, fIf, fChain, asB, fTup, fLst, fNew, allD, fIsi, fIsi2, pI, ifS, addI, subI, mulI, fdivI, modI, powI, ltI, leI, gtI, geI, Option.bind_some, Option.bind_none, Option.map_some, List.getElem?_cons_zero, List.getElem?_cons_succ, List.length_cons, List.length_nil, List.set_cons_zero, List.set_cons_succ, List.map_cons, List.map_nil, List.replicate_zero, List.replicate_succ, List.cons_append, List.nil_append, List.append_nil, if_true, ite_true, ite_false, Nat.reduceAdd, Nat.reduceSub, reduceIte, Bool.not_true, Bool.not_false, Bool.false_eq_true, e1, f5, i1, i2, i3, fXFld, excOf, m1, m2, m3, hx, hy, hz, if_pos, show List.lookup ("at" : Str) [("at", I n)] = some (I n) from rfl, show List.lookup ("most" : Str) [("most", I n)] = some (I n) from rfl, sz (n := 3) (by decide), sz (n := 1) (by decide), q3, ne3, Nat.zero_add]
theorem main (ns : List Int) (hl : ns.length ≤ 63) : ∃ M', F_law [.d (.list (ns.map .int))] [] = some (.d (.bool true), M') := by
  have a1 : addX (.d (.list (ns.map .int))) (.d (.list [.int 7])) [] = some (.d (.list (ns.map .int ++ [.int 7])), []) := addX_l (sz (by rw [List.length_append, List.length_map, List.length_singleton]; omega))
  obtain ⟨n, a2⟩ : ∃ n : Int, ixF (.d (.list (ns.map .int ++ [.int 7]))) (.d (.int 0)) [] = some (I n, []) := by
    have : ∃ n : Int, (ns.map PyData.int ++ [.int 7])[0]? = some (.int n) := by
      cases ns with
      | nil => exact ⟨7, rfl⟩
      | cons n _ => exact ⟨n, rfl⟩
    obtain ⟨n, h⟩ := this
    refine ⟨n, ?_⟩
    show (Option.bind (some (ns.map PyData.int ++ [.int 7])) fun ds => (atI ds 0).bind fun e => some (CD.d e, [])) = _
    rw [Option.bind_some, show atI (ns.map PyData.int ++ [.int 7]) 0 = some (.int n) from L2.atI_nat (j := 0) h]
    rfl
  have p30 : powI (.d (.int 10)) (.d (.int 30)) [] = some (I (10 ^ 30), []) := rfl
  have m30 : modI (I n) (I (10 ^ 30)) [] = some (I (n % 10 ^ 30), []) := by
    show (ifS (modOk n (10 ^ 30)) (.int (n % 10 ^ 30))).bind (fun z => some (CD.d z, [])) = _
    rw [show modOk n (10 ^ 30) = true from rfl]
    rfl
  have e0 : ∀ γ : Ga, fOp modI (fOp ixF (fOp addX (fVar 0) K_law_0) (fC (.int 0))) (fOp powI (fC (.int 10)) (fC (.int 30))) (some (.d (.list (ns.map .int))) :: γ) [] = some (I (n % 10 ^ 30), []) := fun γ => by
    simp only [fOp, fVar, eK_law_0, fC, a1, a2, p30, m30, Option.bind_some, List.getElem?_cons_zero]
  obtain ⟨γ2, M2, e2, a', b', c', d', rfl⟩ := forF_inv (g := hName 2) (b := L_law_1) (fun γ M' => ∃ a b c d, γ = [a, b, c, d.1, d.2]) [I (n % 10 ^ 30), I 0, I 40, I (10 ^ 30)] (fun x hx γ M' ⟨a, b, c, d, hγ⟩ => by
      subst hγ
      have : ∃ k, x = I k := by
        simp only [List.mem_cons, List.not_mem_nil, or_false] at hx
        rcases hx with h | h | h | h <;> exact ⟨_, h⟩
      obtain ⟨k, rfl⟩ := this
      obtain ⟨x', y', M3, q⟩ := turn1 (a := a) (b := b) (n := k) (x := d.1) (y := d.2) (M := M')
      exact ⟨_, _, _, _, rfl, q, a, b, _, (x', y'), rfl⟩) [some (.d (.list (ns.map .int))), some (I (n % 10 ^ 30)), none, none, none] [] ⟨_, _, _, (none, none), rfl⟩
  refine ⟨M2, ?_⟩
  have it : fItems (fLst (fCons (fVar 1) (fCons (fC (.int 0)) (fCons (fC (.int 40)) (fCons (fOp powI (fC (.int 10)) (fC (.int 30))) fNil))))) [some (.d (.list (ns.map .int))), some (I (n % 10 ^ 30)), none, none, none] [] = some ([I (n % 10 ^ 30), I 0, I 40, I (10 ^ 30)], []) := by
    simp only [fItems, fnF, fnX, sSeqX, sIfX, sRetX, sDropX, sAsgX, xCall, aThen, xThen, liA, liE, liS, sRaise, sTry, hRun, unbO, unbG, setG, fIsiX, fCallX, sSeq, sIf, sRet, sRetN, sNext, sAsg, sDrop, hName, hTup, hCons, hNil, hSub, gOr, gAnd, gNot, gB, gTru, truF, fCall, fCons, fNil, fVar, fC, fOp, fUn, fAnd, fOr, fNot, fIf, fChain, asB, fTup, fLst, fNew, allD, fIsi, fIsi2, pI, ifS, addI, subI, mulI, fdivI, modI, powI, ltI, leI, gtI, geI, Option.bind_some, Option.bind_none, Option.map_some, List.getElem?_cons_zero, List.getElem?_cons_succ, List.length_cons, List.length_nil, List.set_cons_zero, List.set_cons_succ, List.map_cons, List.map_nil, List.replicate_zero, List.replicate_succ, List.cons_append, List.nil_append, List.append_nil, if_true, ite_true, ite_false, Nat.reduceAdd, Nat.reduceSub, reduceIte, Bool.not_true, Bool.not_false, Bool.false_eq_true, p30, sz (n := 4) (by decide), Nat.zero_add]
    rfl
  have f5 := sFor_of it e2
  simp only [F_law, m_law, fnF, fnX, sSeqX, sIfX, sRetX, sDropX, sAsgX, xCall, aThen, xThen, liA, liE, liS, sRaise, sTry, hRun, unbO, unbG, setG, fIsiX, fCallX, sSeq, sIf, sRet, sRetN, sNext, sAsg, sDrop, hName, hTup, hCons, hNil, hSub, gOr, gAnd, gNot, gB, gTru, truF, fCall, fCons, fNil, fVar, fC, fUn, fAnd, fOr, fNot, fIf, fChain, asB, fTup, fLst, fNew, allD, fIsi, fIsi2, addI, subI, mulI, fdivI, ltI, leI, gtI, geI, Option.bind_some, Option.bind_none, Option.map_some, List.getElem?_cons_zero, List.getElem?_cons_succ, List.length_cons, List.length_nil, List.set_cons_zero, List.set_cons_succ, List.map_cons, List.map_nil, List.replicate_zero, List.replicate_succ, List.cons_append, List.nil_append, List.append_nil, if_true, ite_true, ite_false, Nat.reduceAdd, Nat.reduceSub, reduceIte, Bool.not_true, Bool.not_false, Bool.false_eq_true, e0, f5]
end Q90

end

open PySem PySem.W PyProof.Rows
set_option maxRecDepth 100000 in
set_option maxHeartbeats 0 in
theorem PySem.Challenge.cw_cutstree_k90_classes_holds : PySem.Challenge.rw_cutstree_k90_classes.Holds := by
  w_on; o_law; k_head; (case hw => w_witness2)
  k_fill
  refine L2.law_walk (l := PySem.Challenge.rw_cutstree_k90_classes) (F := Q90.F_law) (k := 4) (p := "_law_script") (by decide +kernel) rfl rfl ⟨rfl, by decide, by decide, rfl⟩ (fun w h Y => PySem.W.kIn_of Y) ?T Q90.main
  case T =>
    intro w mg h KX G
    refine Q90.fn_law (K := _) (mg := mg) ?TT
    refine' Q90.txt_mk KX G ?z_ValueError ?z_isinstance ?z_range ?a_NoWeight ?xc_NoWeight_ga ?xc_NoWeight_gh ?xc_NoWeight_be ?xc_NoWeight_cl ?xc_NoWeight_ha ?xc_NoWeight_hn ?xc_NoWeight_htk ?xc_NoWeight_hm ?a_NoPlace ?xc_NoPlace_ga ?xc_NoPlace_gh ?xc_NoPlace_be ?xc_NoPlace_cl ?xc_NoPlace_ha ?xc_NoPlace_hn ?xc_NoPlace_htk ?xc_NoPlace_hm ?a_NoTie ?xc_NoTie_ga ?xc_NoTie_gh ?xc_NoTie_be ?xc_NoTie_cl ?xc_NoTie_ha ?xc_NoTie_hn ?xc_NoTie_htk ?xc_NoTie_hm ?a_TooMany ?xc_TooMany_ga ?xc_TooMany_gh ?xc_TooMany_be ?xc_TooMany_cl ?xc_TooMany_ha ?xc_TooMany_hn ?xc_TooMany_htk ?xc_TooMany_hm ?a_NoSide ?xc_NoSide_ga ?xc_NoSide_gh ?xc_NoSide_be ?xc_NoSide_cl ?xc_NoSide_ha ?xc_NoSide_hn ?xc_NoSide_htk ?xc_NoSide_hm ?a_NoFlow ?xc_NoFlow_ga ?xc_NoFlow_gh ?xc_NoFlow_be ?xc_NoFlow_cl ?xc_NoFlow_ha ?xc_NoFlow_hn ?xc_NoFlow_htk ?xc_NoFlow_hm ?a_NotGreatest ?xc_NotGreatest_ga ?xc_NotGreatest_gh ?xc_NotGreatest_be ?xc_NotGreatest_cl ?xc_NotGreatest_ha ?xc_NotGreatest_hn ?xc_NotGreatest_htk ?xc_NotGreatest_hm ?a_NoTree ?xc_NoTree_ga ?xc_NoTree_gh ?xc_NoTree_be ?xc_NoTree_cl ?xc_NoTree_ha ?xc_NoTree_hn ?xc_NoTree_htk ?xc_NoTree_hm ?a_OnePlace ?xc_OnePlace_ga ?xc_OnePlace_gh ?xc_OnePlace_be ?xc_OnePlace_cl ?xc_OnePlace_ha ?xc_OnePlace_hn ?xc_OnePlace_htk ?xc_OnePlace_hm ?a_InPieces ?xc_InPieces_ga ?xc_InPieces_gh ?xc_InPieces_be ?xc_InPieces_cl ?xc_InPieces_ha ?xc_InPieces_hn ?xc_InPieces_htk ?xc_InPieces_hm ?a_NoChart ?xc_NoChart_ga ?xc_NoChart_gh ?xc_NoChart_be ?xc_NoChart_cl ?xc_NoChart_ha ?xc_NoChart_hn ?xc_NoChart_htk ?xc_NoChart_hm ?a_NoGroups ?xc_NoGroups_ga ?xc_NoGroups_gh ?xc_NoGroups_be ?xc_NoGroups_cl ?xc_NoGroups_ha ?xc_NoGroups_hn ?xc_NoGroups_htk ?xc_NoGroups_hm ?a_NoDemand ?xc_NoDemand_ga ?xc_NoDemand_gh ?xc_NoDemand_be ?xc_NoDemand_cl ?xc_NoDemand_ha ?xc_NoDemand_hn ?xc_NoDemand_htk ?xc_NoDemand_hm ?a_NoLine ?xc_NoLine_ga ?xc_NoLine_gh ?xc_NoLine_be ?xc_NoLine_cl ?xc_NoLine_ha ?xc_NoLine_hn ?xc_NoLine_htk ?xc_NoLine_hm ?a_NotThere ?xc_NotThere_ga ?xc_NotThere_gh ?xc_NotThere_be ?xc_NotThere_cl ?xc_NotThere_ha ?xc_NotThere_hn ?xc_NotThere_htk ?xc_NotThere_hm ?kg_NoTie ?kn_NoTie ?kg_NoPlace ?kn_NoPlace ?kg_NoWeight ?kn_NoWeight ?kg_NoFlow ?kn_NoFlow ?kg_NoSide ?kn_NoSide ?kg_TooMany ?kn_TooMany ?kg_OnePlace ?kn_OnePlace ?kg_NoTree ?kn_NoTree ?kg_NotGreatest ?kn_NotGreatest ?kg_NoGroups ?kn_NoGroups ?kg_NoChart ?kn_NoChart ?kg_InPieces ?kn_InPieces ?kg_NotThere ?kn_NotThere ?kg_NoLine ?kn_NoLine ?kg_NoDemand ?kn_NoDemand ?kp_NoTree ?q_NoTree ?kp_NotGreatest ?q_NotGreatest ?kp_NoFlow ?q_NoFlow ?kp_NoSide ?q_NoSide ?kp_TooMany ?kp_NoTie ?kp_NoPlace ?q_NoPlace ?kp_NoWeight ?q_NoWeight ?kp_NotThere ?q_NotThere ?kp_NoLine ?kp_NoDemand ?q_NoDemand ?kp_NoGroups ?q_NoGroups ?kp_NoChart ?q_NoChart ?kp_InPieces ?q_InPieces ?kp_OnePlace ?q_OnePlace ?kg_ValueError ?kn_ValueError ?a_CutError ?kg_CutError ?kn_CutError ?xs_NoLine_at_sa ?xs_NoLine_at_ov ?xs_NoLine_at_tk ?xs_NoLine_at_hd ?xs_NoLine_at_na ?xs_NoTie_at_sa ?xs_NoTie_at_ov ?xs_NoTie_at_tk ?xs_NoTie_at_hd ?xs_NoTie_at_na ?xs_TooMany_most_sa ?xs_TooMany_most_ov ?xs_TooMany_most_tk ?xs_TooMany_most_hd ?xs_TooMany_most_na ?xt_NoTie ?i_NoTie__init ?l_NoTie__init ?c_NoTie__init ?k_NoTie__init ?g_NoTie__init ?xt_TooMany ?i_TooMany__init ?l_TooMany__init ?c_TooMany__init ?k_TooMany__init ?g_TooMany__init ?xt_NoLine ?i_NoLine__init ?l_NoLine__init ?c_NoLine__init ?k_NoLine__init ?g_NoLine__init ?a__law_made ?l__law_made ?c__law_made ?k__law_made ?a__law_of ?l__law_of ?c__law_of ?k__law_of ?a_law ?l_law ?c_law ?k_law
    (case z_ValueError => k_is)
    (case z_isinstance => k_is)
    (case z_range => k_is)
    (case a_NoWeight => k_is)
    (case xc_NoWeight_ga => k_is)
    (case xc_NoWeight_gh => k_is)
    (case xc_NoWeight_be => k_is)
    (case xc_NoWeight_cl => kernel_rfl)
    (case xc_NoWeight_ha => k_is)
    (case xc_NoWeight_hn => k_is)
    (case xc_NoWeight_htk => k_is)
    (case xc_NoWeight_hm => k_is)
    (case a_NoPlace => k_is)
    (case xc_NoPlace_ga => k_is)
    (case xc_NoPlace_gh => k_is)
    (case xc_NoPlace_be => k_is)
    (case xc_NoPlace_cl => kernel_rfl)
    (case xc_NoPlace_ha => k_is)
    (case xc_NoPlace_hn => k_is)
    (case xc_NoPlace_htk => k_is)
    (case xc_NoPlace_hm => k_is)
    (case a_NoTie => k_is)
    (case xc_NoTie_ga => k_is)
    (case xc_NoTie_gh => k_is)
    (case xc_NoTie_be => k_is)
    (case xc_NoTie_cl => kernel_rfl)
    (case xc_NoTie_ha => k_is)
    (case xc_NoTie_hn => k_is)
    (case xc_NoTie_htk => k_is)
    (case xc_NoTie_hm => k_is)
    (case a_TooMany => k_is)
    (case xc_TooMany_ga => k_is)
    (case xc_TooMany_gh => k_is)
    (case xc_TooMany_be => k_is)
    (case xc_TooMany_cl => kernel_rfl)
    (case xc_TooMany_ha => k_is)
    (case xc_TooMany_hn => k_is)
    (case xc_TooMany_htk => k_is)
    (case xc_TooMany_hm => k_is)
    (case a_NoSide => k_is)
    (case xc_NoSide_ga => k_is)
    (case xc_NoSide_gh => k_is)
    (case xc_NoSide_be => k_is)
    (case xc_NoSide_cl => kernel_rfl)
    (case xc_NoSide_ha => k_is)
    (case xc_NoSide_hn => k_is)
    (case xc_NoSide_htk => k_is)
    (case xc_NoSide_hm => k_is)
    (case a_NoFlow => k_is)
    (case xc_NoFlow_ga => k_is)
    (case xc_NoFlow_gh => k_is)
    (case xc_NoFlow_be => k_is)
    (case xc_NoFlow_cl => kernel_rfl)
    (case xc_NoFlow_ha => k_is)
    (case xc_NoFlow_hn => k_is)
    (case xc_NoFlow_htk => k_is)
    (case xc_NoFlow_hm => k_is)
    (case a_NotGreatest => k_is)
    (case xc_NotGreatest_ga => k_is)
    (case xc_NotGreatest_gh => k_is)
    (case xc_NotGreatest_be => k_is)
    (case xc_NotGreatest_cl => kernel_rfl)
    (case xc_NotGreatest_ha => k_is)
    (case xc_NotGreatest_hn => k_is)
    (case xc_NotGreatest_htk => k_is)
    (case xc_NotGreatest_hm => k_is)
    (case a_NoTree => k_is)
    (case xc_NoTree_ga => k_is)
    (case xc_NoTree_gh => k_is)
    (case xc_NoTree_be => k_is)
    (case xc_NoTree_cl => kernel_rfl)
    (case xc_NoTree_ha => k_is)
    (case xc_NoTree_hn => k_is)
    (case xc_NoTree_htk => k_is)
    (case xc_NoTree_hm => k_is)
    (case a_OnePlace => k_is)
    (case xc_OnePlace_ga => k_is)
    (case xc_OnePlace_gh => k_is)
    (case xc_OnePlace_be => k_is)
    (case xc_OnePlace_cl => kernel_rfl)
    (case xc_OnePlace_ha => k_is)
    (case xc_OnePlace_hn => k_is)
    (case xc_OnePlace_htk => k_is)
    (case xc_OnePlace_hm => k_is)
    (case a_InPieces => k_is)
    (case xc_InPieces_ga => k_is)
    (case xc_InPieces_gh => k_is)
    (case xc_InPieces_be => k_is)
    (case xc_InPieces_cl => kernel_rfl)
    (case xc_InPieces_ha => k_is)
    (case xc_InPieces_hn => k_is)
    (case xc_InPieces_htk => k_is)
    (case xc_InPieces_hm => k_is)
    (case a_NoChart => k_is)
    (case xc_NoChart_ga => k_is)
    (case xc_NoChart_gh => k_is)
    (case xc_NoChart_be => k_is)
    (case xc_NoChart_cl => kernel_rfl)
    (case xc_NoChart_ha => k_is)
    (case xc_NoChart_hn => k_is)
    (case xc_NoChart_htk => k_is)
    (case xc_NoChart_hm => k_is)
    (case a_NoGroups => k_is)
    (case xc_NoGroups_ga => k_is)
    (case xc_NoGroups_gh => k_is)
    (case xc_NoGroups_be => k_is)
    (case xc_NoGroups_cl => kernel_rfl)
    (case xc_NoGroups_ha => k_is)
    (case xc_NoGroups_hn => k_is)
    (case xc_NoGroups_htk => k_is)
    (case xc_NoGroups_hm => k_is)
    (case a_NoDemand => k_is)
    (case xc_NoDemand_ga => k_is)
    (case xc_NoDemand_gh => k_is)
    (case xc_NoDemand_be => k_is)
    (case xc_NoDemand_cl => kernel_rfl)
    (case xc_NoDemand_ha => k_is)
    (case xc_NoDemand_hn => k_is)
    (case xc_NoDemand_htk => k_is)
    (case xc_NoDemand_hm => k_is)
    (case a_NoLine => k_is)
    (case xc_NoLine_ga => k_is)
    (case xc_NoLine_gh => k_is)
    (case xc_NoLine_be => k_is)
    (case xc_NoLine_cl => kernel_rfl)
    (case xc_NoLine_ha => k_is)
    (case xc_NoLine_hn => k_is)
    (case xc_NoLine_htk => k_is)
    (case xc_NoLine_hm => k_is)
    (case a_NotThere => k_is)
    (case xc_NotThere_ga => k_is)
    (case xc_NotThere_gh => k_is)
    (case xc_NotThere_be => k_is)
    (case xc_NotThere_cl => kernel_rfl)
    (case xc_NotThere_ha => k_is)
    (case xc_NotThere_hn => k_is)
    (case xc_NotThere_htk => k_is)
    (case xc_NotThere_hm => k_is)
    (case kg_NoTie => kernel_rfl)
    (case kn_NoTie => kernel_rfl)
    (case kg_NoPlace => kernel_rfl)
    (case kn_NoPlace => kernel_rfl)
    (case kg_NoWeight => kernel_rfl)
    (case kn_NoWeight => kernel_rfl)
    (case kg_NoFlow => kernel_rfl)
    (case kn_NoFlow => kernel_rfl)
    (case kg_NoSide => kernel_rfl)
    (case kn_NoSide => kernel_rfl)
    (case kg_TooMany => kernel_rfl)
    (case kn_TooMany => kernel_rfl)
    (case kg_OnePlace => kernel_rfl)
    (case kn_OnePlace => kernel_rfl)
    (case kg_NoTree => kernel_rfl)
    (case kn_NoTree => kernel_rfl)
    (case kg_NotGreatest => kernel_rfl)
    (case kn_NotGreatest => kernel_rfl)
    (case kg_NoGroups => kernel_rfl)
    (case kn_NoGroups => kernel_rfl)
    (case kg_NoChart => kernel_rfl)
    (case kn_NoChart => kernel_rfl)
    (case kg_InPieces => kernel_rfl)
    (case kn_InPieces => kernel_rfl)
    (case kg_NotThere => kernel_rfl)
    (case kn_NotThere => kernel_rfl)
    (case kg_NoLine => kernel_rfl)
    (case kn_NoLine => kernel_rfl)
    (case kg_NoDemand => kernel_rfl)
    (case kn_NoDemand => kernel_rfl)
    (case kp_NoTree => k_is)
    (case q_NoTree => kernel_rfl)
    (case kp_NotGreatest => k_is)
    (case q_NotGreatest => kernel_rfl)
    (case kp_NoFlow => k_is)
    (case q_NoFlow => kernel_rfl)
    (case kp_NoSide => k_is)
    (case q_NoSide => kernel_rfl)
    (case kp_TooMany => k_is)
    (case kp_NoTie => k_is)
    (case kp_NoPlace => k_is)
    (case q_NoPlace => kernel_rfl)
    (case kp_NoWeight => k_is)
    (case q_NoWeight => kernel_rfl)
    (case kp_NotThere => k_is)
    (case q_NotThere => kernel_rfl)
    (case kp_NoLine => k_is)
    (case kp_NoDemand => k_is)
    (case q_NoDemand => kernel_rfl)
    (case kp_NoGroups => k_is)
    (case q_NoGroups => kernel_rfl)
    (case kp_NoChart => k_is)
    (case q_NoChart => kernel_rfl)
    (case kp_InPieces => k_is)
    (case q_InPieces => kernel_rfl)
    (case kp_OnePlace => k_is)
    (case q_OnePlace => kernel_rfl)
    (case kg_ValueError => kernel_rfl)
    (case kn_ValueError => kernel_rfl)
    (case a_CutError => k_is)
    (case kg_CutError => kernel_rfl)
    (case kn_CutError => kernel_rfl)
    (case xs_NoLine_at_sa => k_is)
    (case xs_NoLine_at_ov => kernel_rfl)
    (case xs_NoLine_at_tk => kernel_rfl)
    (case xs_NoLine_at_hd => kernel_rfl)
    (case xs_NoLine_at_na => k_is)
    (case xs_NoTie_at_sa => k_is)
    (case xs_NoTie_at_ov => kernel_rfl)
    (case xs_NoTie_at_tk => kernel_rfl)
    (case xs_NoTie_at_hd => kernel_rfl)
    (case xs_NoTie_at_na => k_is)
    (case xs_TooMany_most_sa => k_is)
    (case xs_TooMany_most_ov => kernel_rfl)
    (case xs_TooMany_most_tk => kernel_rfl)
    (case xs_TooMany_most_hd => kernel_rfl)
    (case xs_TooMany_most_na => k_is)
    (case xt_NoTie => kernel_rfl)
    (case i_NoTie__init => k_is)
    (case l_NoTie__init => k_is)
    (case c_NoTie__init => k_is)
    (case k_NoTie__init => k_is)
    (case g_NoTie__init => kernel_rfl)
    (case xt_TooMany => kernel_rfl)
    (case i_TooMany__init => k_is)
    (case l_TooMany__init => k_is)
    (case c_TooMany__init => k_is)
    (case k_TooMany__init => k_is)
    (case g_TooMany__init => kernel_rfl)
    (case xt_NoLine => kernel_rfl)
    (case i_NoLine__init => k_is)
    (case l_NoLine__init => k_is)
    (case c_NoLine__init => k_is)
    (case k_NoLine__init => k_is)
    (case g_NoLine__init => kernel_rfl)
    (case a__law_made => k_is)
    (case l__law_made => k_is)
    (case c__law_made => k_is)
    (case k__law_made => k_is)
    (case a__law_of => k_is)
    (case l__law_of => k_is)
    (case c__law_of => k_is)
    (case k__law_of => k_is)
    (case a_law => k_is)
    (case l_law => k_is)
    (case c_law => k_is)
    (case k_law => k_is)
