import PyProof.Rows.All
import Wide.All
import OpenK.AllK
import Wide.FinOn
import Lean
import PyProof.EqAt
import PyProof.EqKinds
import PyProof.TupleCall
import PyProof.ReprLen
import PySem.Challenge.RW_cutstree_k03_whole_any_amount
set_option Elab.async false
section
-- CHANGE: your row's module here, as the last of these rows
set_option Elab.async false
set_option linter.all false
set_option maxRecDepth 100000
/-! THE HAND LAYER, for ints, bools, texts, own classes, LISTS and tuples (index, slices, in, append, pop ..), calls, loops. Paste it whole ahead of your own text; what your proof does not reach may be deleted. -/
namespace L2
open PySem PySem.Spec PyProof.Rows

/-- a key: an int or a str -/
abbrev Key := Sum Int Str
def keyIs : Key → Value → Bool
  | .inl k, v => Value.isInt k v
  | .inr x, v => Value.isStrOf x v
def keyH (w : World) : Key → Int
  | .inl k => hashInt k
  | .inr x => hashStr w x
theorem keyIs_shape : ∀ {k : Key} {v : Value}, keyIs k v = true → (∃ i t, k = Sum.inl i ∧ v = Value.int i t) ∨ (∃ x t, k = Sum.inr x ∧ v = Value.str x t)
  | .inl i, v, h => by
    obtain ⟨t, e⟩ := Value.isInt_shape (k := i) (v := v) h
    exact .inl ⟨i, t, rfl, e⟩
  | .inr x, v, h => by
    obtain ⟨t, e⟩ := Value.isStrOf_shape (x := x) (v := v) h
    exact .inr ⟨x, t, rfl, e⟩
theorem keyIs_int (i : Int) (t : Tok) : keyIs (.inl i) (.int i t) = true := by simp [keyIs, Value.isInt]
theorem keyIs_str (x : Str) (t : Tok) : keyIs (.inr x) (.str x t) = true := by simp [keyIs, Value.isStrOf]
theorem key_ll (a b : Int) : decide ((Sum.inl a : Key) = Sum.inl b) = (a == b) := by
  by_cases e : a = b
  · subst e; simp
  · have h : ¬ (Sum.inl a : Key) = Sum.inl b := fun q => e (Sum.inl.inj q)
    rw [decide_eq_false h]
    exact (beq_eq_false_iff_ne.mpr e).symm
theorem key_rr (a b : Str) : decide ((Sum.inr a : Key) = Sum.inr b) = decide (a = b) := by
  by_cases e : a = b
  · subst e; simp
  · have h : ¬ (Sum.inr a : Key) = Sum.inr b := fun q => e (Sum.inr.inj q)
    rw [decide_eq_false h, decide_eq_false e]
theorem key_lr (a : Int) (b : Str) : decide ((Sum.inl a : Key) = Sum.inr b) = false := decide_eq_false (fun q => nomatch q)
theorem key_rl (a : Str) (b : Int) : decide ((Sum.inr a : Key) = Sum.inl b) = false := decide_eq_false (fun q => nomatch q)

def mixKind (prog : Program) (w : World) : PySem.KeyKind prog w Key where
  is := keyIs
  hash := keyH w
  inj := fun v a b ha hb => by
    rcases keyIs_shape ha with ⟨i, t, rfl, rfl⟩ | ⟨x, t, rfl, rfl⟩
    · rcases keyIs_shape hb with ⟨j, u, rfl, e⟩ | ⟨y, u, rfl, e⟩
      · injection e with e1 _; rw [e1]
      · exact nomatch e
    · rcases keyIs_shape hb with ⟨j, u, rfl, e⟩ | ⟨y, u, rfl, e⟩
      · exact nomatch e
      · injection e with e1 _; rw [e1]
  byValue := fun k v h => by
    rcases keyIs_shape h with ⟨i, t, rfl, rfl⟩ | ⟨x, t, rfl, rfl⟩ <;> rfl
  pyHash := fun hv h => by
    rcases keyIs_shape hv with ⟨i, t, rfl, rfl⟩ | ⟨x, t, rfl, rfl⟩
    · exact wpAny_pyHash_int h
    · exact wpAny_pyHash_str h
  eqBool := fun hu hv h => by
    rcases keyIs_shape hu with ⟨i, t, rfl, rfl⟩ | ⟨x, t, rfl, rfl⟩
    · rcases keyIs_shape hv with ⟨j, u, rfl, rfl⟩ | ⟨y, u, rfl, rfl⟩
      · rw [key_ll] at h; exact wpAny_eqBool_int h
      · rw [key_lr] at h; exact SeqAt.EqAt.int_str i t y u _ _ _ _ h
    · rcases keyIs_shape hv with ⟨j, u, rfl, rfl⟩ | ⟨y, u, rfl, rfl⟩
      · rw [key_rl] at h; exact SeqAt.EqAt.str_int x t j u _ _ _ _ h
      · rw [key_rr] at h; exact wpAny_eqBool_str h
  «strs» := fun k x t v h => by
    rcases keyIs_shape h with ⟨i, u, rfl, e⟩ | ⟨y, u, rfl, e⟩
    · exact nomatch e
    · injection e with e1 _
      subst e1
      cases v <;> rfl

theorem mixKind_is (prog : Program) (w : World) (k : Key) (v : Value) : (mixKind prog w).is k v = keyIs k v := rfl
theorem mixKind_int (prog : Program) (w : World) (i : Int) (t : Tok) : (mixKind prog w).is (.inl i) (.int i t) = true := keyIs_int i t
theorem mixKind_str (prog : Program) (w : World) (x : Str) (t : Tok) : (mixKind prog w).is (.inr x) (.str x t) = true := keyIs_str x t
end L2

namespace L2
open PySem PySem.Spec PyProof.Rows

/-- a value, without the heap -/
inductive V where
  | non | bl (b : Bool) | int (i : Int) | str (x : Str) | byt (b : Array UInt8) | flt (b : UInt64) | ref (a : Addr) | ty (n : String)
  deriving DecidableEq

def RelV : V → Value → Prop
  | .non, u => u = Value.none
  | .bl b, u => u = Value.bool b
  | .int i, u => ∃ t, u = Value.int i t
  | .str x, u => ∃ t, u = Value.str x t
  | .byt b, u => ∃ t, u = Value.bytes b t
  | .flt b, u => ∃ t, u = Value.float b t
  | .ref a, u => u = Value.ref a
  | .ty n, u => u = Value.type n

abbrev Vals : List V → List Value → Prop := Paired RelV
theorem Vals.length {xs : List V} {us : List Value} (r : Vals xs us) : xs.length = us.length := Paired.length r
theorem Vals.get : ∀ {xs : List V} {us : List Value} {i : Nat} {x : V}, Vals xs us → xs[i]? = some x → ∃ u, us[i]? = some u ∧ RelV x u
  | _, _, _, _, .nil, e => by simp at e
  | _, _, 0, _, .cons r _, e => by simp at e; subst e; exact ⟨_, rfl, r⟩
  | _, _, i + 1, x, .cons _ t, e => by
    obtain ⟨u, h1, h2⟩ := Vals.get (i := i) (x := x) t (by simpa using e)
    exact ⟨u, by simpa using h1, h2⟩
theorem Vals.set {x : V} {u : Value} (r : RelV x u) : ∀ {xs : List V} {us : List Value} (i : Nat), Vals xs us → Vals (xs.set i x) (us.set i u)
  | _, _, _, .nil => .nil
  | _, _, 0, .cons _ t => .cons r t
  | _, _, i + 1, .cons q t => .cons q (Vals.set r i t)
theorem Vals.append : ∀ {xs ys : List V} {us ws : List Value}, Vals xs us → Vals ys ws → Vals (xs ++ ys) (us ++ ws)
  | _, _, _, _, .nil, s => s
  | _, _, _, _, .cons r t, s => .cons r (Vals.append t s)
theorem Vals.take : ∀ {xs : List V} {us : List Value} (n : Nat), Vals xs us → Vals (xs.take n) (us.take n)
  | _, _, 0, _ => .nil
  | _, _, _ + 1, .nil => .nil
  | _, _, n + 1, .cons r t => .cons r (Vals.take n t)
theorem Vals.drop : ∀ {xs : List V} {us : List Value} (n : Nat), Vals xs us → Vals (xs.drop n) (us.drop n)
  | _, _, 0, r => r
  | _, _, _ + 1, .nil => .nil
  | _, _, n + 1, .cons _ t => Vals.drop n t
theorem Vals.none_of : ∀ {xs : List V} {us : List Value} {i : Nat}, Vals xs us → xs[i]? = none → us[i]? = none := fun {xs us i} r e => by
  have h1 := r.length
  have h2 : xs.length ≤ i := List.getElem?_eq_none_iff.mp e
  exact List.getElem?_eq_none_iff.mpr (by omega)

def RelO : Option V → Option Value → Prop
  | some v, some u => RelV v u
  | none, none => True
  | _, _ => False
def KV {κ : Type} : List (κ × V) → List (κ × Value) → Prop := Paired fun (p : κ × V) (q : κ × Value) => p.1 = q.1 ∧ RelV p.2 q.2

/-- a key of a dict (00_mix): an int or a text -/
def kV : Key → V
  | .inl i => .int i
  | .inr x => .str x

/-- what stands at a tracked address -/
inductive HO where
  /-- a list -/
  | lst (xs : List V)
  /-- a tuple (never changes) -/
  | tup (xs : List V)
  /-- a dict whose keys are ints and texts; one whose keys are tuples of ints and texts (the empty one is both) -/
  | dK (kvs : List (Key × V)) | dT (kvs : List (List Key × V))
  /-- a set of ints: its members, its size -/
  | set (S : Int → Bool) (n : Nat)
  /-- an instance of the class at C, its dict at dx, its attributes -/
  | ins (C dx : Addr) (fs : List (Str × V))
  /-- the dict of the instance at x -/
  | own (x : Addr)
  /-- the dict of an exception -/
  | xd (fs : List (Str × V))
  /-- a bound method, f of x -/
  | met (f x : Addr)
  /-- a range object lo, lo + 1, .. below hi -/
  | rng (lo hi : Int)
  /-- a thing that is known to the object (the script; a dict while a loop walks it): read, never written while it is so -/
  | frz (o : Obj) (u : HO)
  /-- a code object's table -/
  | tbl (ps : Array Value)
  /-- any other thing, by what is true of its one object (a def of one's own: SetO a S n := HO.ext fun h => ..) -/
  | ext (φ : Heap → Prop)

abbrev Hp := Addr → Option HO
def upd (H : Hp) (a : Addr) (o : HO) : Hp := fun b => if b = a then some o else H b
theorem upd_same {H : Hp} {a : Addr} {o : HO} : upd H a o a = some o := by unfold upd; rw [if_pos rfl]
theorem upd_ne {H : Hp} {a b : Addr} {o : HO} (h : b ≠ a) : upd H a o b = H b := by unfold upd; rw [if_neg h]
theorem upd_upd {H : Hp} {a : Addr} {o u : HO} : upd (upd H a o) a u = upd H a u := by
  funext b; unfold upd; split <;> rfl
/-- two objects of different content stand apart -/
theorem ne_of {H : Hp} {a b : Addr} {o u : HO} (h : H a = some o) (h' : H b = some u) (d : o ≠ u) : a ≠ b := by
  intro e; subst e; rw [h] at h'; exact d (Option.some.inj h')
theorem ne_of_none {H : Hp} {a b : Addr} {o : HO} (h : H a = some o) (h' : H b = none) : a ≠ b := by
  intro e; subst e; rw [h] at h'; cases h'

section
variable (P : Program) (w : World)
def ObjOk (H : Hp) (h : Heap) (a : Addr) : HO → Prop
  | .lst xs => xs.length ≤ sizeLine ∧ ∃ (its : List Value) (n : Nat), Vals xs its ∧ h.get? a = some { cls := .type "list", data := .seq its.toArray n }
  | .tup xs => xs.length ≤ sizeLine ∧ ∃ its : List Value, Vals xs its ∧ IsTup h a its.toArray
  | .dK kvs => kvs.length ≤ sizeLine ∧ (a == sysModules) = false ∧ ∃ vs, KV kvs vs ∧ h.DictOf (mixKind P w) a vs
  | .dT kvs => kvs.length ≤ sizeLine ∧ (a == sysModules) = false ∧ ∃ xs : List (List Key × Addr × Value),
      Paired (fun (p : List Key × V) (q : List Key × Addr × Value) => p.1 = q.1 ∧ H q.2.1 = some (.tup (p.1.map kV)) ∧ RelV p.2 q.2.2) kvs xs ∧
      ∃ o es ep, h.get? a = some o ∧ o.ExactDict ∧ o.data = .dict es ep ∧ es.toList = xs.map (entryOfKey (tupleKind (mixKind P w))) ∧ (xs.map (·.1)).Nodup
  | .set S n => h.SetOf (intKind P w) a S n
  | .ins C dx fs => H dx = some (.own a) ∧ fs.length ≤ 1000 ∧ dx ≠ a ∧ h.get? a = some (PySem.W.instObj C dx) ∧
      ∃ mA, h.Ns1 dx mA ∧ (∀ f, RelO (fs.lookup f) (mA f)) ∧ PySem.Within mA (fs.map (·.1))
  | .own _ => ∃ o, h.get? a = some o
  | .xd fs => ∃ mA, h.Ns1 a mA ∧ ∀ f, RelO (fs.lookup f) (mA f)
  | .rng lo hi => ∃ t u v, h.get? a = some { cls := .type "range", data := .fields #[.int lo t, .int hi u, .int 1 v] }
  | .frz o u => h.get? a = some o ∧ ObjOk H h a u
  | .tbl ps => h.get? a = some { cls := .none, data := .fields ps }
  | .met f x => h.get? a = some (PySem.W.methodObj (.ref f) (.ref x))
  | .ext φ => φ h ∧ (∃ o, h.get? a = some o) ∧ ∀ h1 h2 : Heap, φ h1 → (∀ o, h1.get? a = some o → h2.get? a = some o) → φ h2
/-- the abstract heap is held -/
def HOk (H : Hp) (h : Heap) : Prop := ∀ a o, H a = some o → ObjOk P w H h a o
end

section
variable {P : Program} {w : World} {H H' : Hp} {h h' : Heap} {a : Addr} {o : HO}
theorem ObjOk.lt (x : ObjOk P w H h a o) : a < h.objs.size := by
  cases o with
  | lst xs => obtain ⟨_, _, _, _, e⟩ := x; exact Heap.lt_size e
  | tup xs => obtain ⟨_, _, _, p⟩ := x; exact p.lt
  | dK kvs => obtain ⟨_, _, _, _, o, _, _, e, _⟩ := x; exact Heap.lt_size e
  | dT kvs => obtain ⟨_, _, _, _, o, _, _, e, _⟩ := x; exact Heap.lt_size e
  | set S n => obtain ⟨o, _, _, _, e, _⟩ := x; exact Heap.lt_size e
  | ins C dx fs => obtain ⟨_, _, _, e, _⟩ := x; exact Heap.lt_size e
  | own y => obtain ⟨_, e⟩ := x; exact Heap.lt_size e
  | xd fs => obtain ⟨_, ⟨_, _, _, e, _⟩, _⟩ := x; exact Heap.lt_size e
  | rng lo hi => obtain ⟨_, _, _, e⟩ := x; exact Heap.lt_size e
  | frz ob u => obtain ⟨e, _⟩ := x; exact Heap.lt_size e
  | tbl ps => exact Heap.lt_size (show h.get? a = some _ from x)
  | met f y => exact Heap.lt_size (show h.get? a = some _ from x)
  | ext φ => obtain ⟨_, ⟨_, e⟩, _⟩ := x; exact Heap.lt_size e
theorem Paired.mapP {α β : Type} {F G : α → β → Prop} : ∀ {l₁ : List α} {l₂ : List β}, Paired F l₁ l₂ → (∀ a b, F a b → G a b) → Paired G l₁ l₂
  | _, _, .nil, _ => .nil
  | _, _, .cons r t, f => .cons (f _ _ r) (Paired.mapP t f)
theorem Paired.imp' {α β : Type} {F G : α → β → Prop} (f : ∀ a b, F a b → G a b) {l₁ : List α} {l₂ : List β} (r : Paired F l₁ l₂) : Paired G l₁ l₂ := Paired.mapP r f
/-- what an object's description leans on: its own object, its own dict, the tuples -/
theorem ObjOk.stay (x : ObjOk P w H h a o) (k : ∀ b u, (b = a ∨ H b = some (.own a)) → h.get? b = some u → h'.get? b = some u)
    (ho : ∀ b, H b = some (.own a) → H' b = some (.own a)) (ht : ∀ b xs, H b = some (.tup xs) → H' b = some (.tup xs)) : ObjOk P w H' h' a o := by
  induction o with
  | lst xs => obtain ⟨z, its, n, r, e⟩ := x; exact ⟨z, its, n, r, k _ _ (.inl rfl) e⟩
  | tup xs => obtain ⟨z, its, r, ob, e, c⟩ := x; exact ⟨z, its, r, ob, k _ _ (.inl rfl) e, c⟩
  | dK kvs => obtain ⟨z, y, vs, r, ob, es, ep, e, c⟩ := x; exact ⟨z, y, vs, r, ob, es, ep, k _ _ (.inl rfl) e, c⟩
  | dT kvs =>
    obtain ⟨z, y, xs, r, ob, es, ep, e, c⟩ := x
    exact ⟨z, y, xs, Paired.mapP r fun p q z => ⟨z.1, ht _ _ z.2.1, z.2.2⟩, ob, es, ep, k _ _ (.inl rfl) e, c⟩
  | set S n => obtain ⟨ob, es, ep, t, e, c⟩ := x; exact ⟨ob, es, ep, t, k _ _ (.inl rfl) e, c⟩
  | ins C dx fs =>
    obtain ⟨d, z, ne, e, mA, ⟨od, es, ep, e2, c⟩, r⟩ := x
    exact ⟨ho _ d, z, ne, k _ _ (.inl rfl) e, mA, ⟨od, es, ep, k _ _ (.inr d) e2, c⟩, r⟩
  | own y => obtain ⟨ob, e⟩ := x; exact ⟨ob, k _ _ (.inl rfl) e⟩
  | xd fs => obtain ⟨mA, ⟨od, es, ep, e, c⟩, r⟩ := x; exact ⟨mA, ⟨od, es, ep, k _ _ (.inl rfl) e, c⟩, r⟩
  | rng lo hi => obtain ⟨t, u, v, e⟩ := x; exact ⟨t, u, v, k _ _ (.inl rfl) e⟩
  | frz ob u ih => obtain ⟨e, q⟩ := x; exact ⟨k _ _ (.inl rfl) e, ih q⟩
  | tbl ps =>
    have e : h.get? a = some { cls := .none, data := .fields ps } := x
    show h'.get? a = some { cls := .none, data := .fields ps }
    exact k a _ (.inl rfl) e
  | met f y =>
    have e : h.get? a = some (PySem.W.methodObj (.ref f) (.ref y)) := x
    show h'.get? a = some (PySem.W.methodObj (.ref f) (.ref y))
    exact k a _ (.inl rfl) e
  | ext φ => obtain ⟨p, ⟨o, e⟩, st⟩ := x; exact ⟨st _ _ p fun o q => k _ _ (.inl rfl) q, ⟨o, k _ _ (.inl rfl) e⟩, st⟩
theorem HOk.lt (x : HOk P w H h) (e : H a = some o) : a < h.objs.size := (x a o e).lt
theorem HOk.fresh (x : HOk P w H h) (e : h.objs.size ≤ a) : H a = none := by
  cases q : H a with
  | none => rfl
  | some u => exact absurd (Nat.lt_of_lt_of_le (x.lt q) e) (Nat.lt_irrefl _)
/-- every object of the heap is kept -/
theorem HOk.kept (x : HOk P w H h) (k : ∀ b u, h.get? b = some u → h'.get? b = some u) : HOk P w H h' := fun a o e =>
  (x a o e).stay (fun b u _ q => k b u q) (fun _ q => q) fun _ _ q => q
/-- a new object is laid and tracked -/
theorem HOk.laid (x : HOk P w H h) (k : ∀ b u, h.get? b = some u → h'.get? b = some u) (hp : h.objs.size ≤ a) (new : ObjOk P w (upd H a o) h' a o) : HOk P w (upd H a o) h' := fun b u e => by
  have hn := x.fresh hp
  by_cases hb : b = a
  · subst hb; rw [upd_same] at e; cases e; exact new
  · rw [upd_ne hb] at e
    exact (x b u e).stay (fun c v _ q => k c v q) (fun c q => by rw [upd_ne (ne_of_none q hn)]; exact q) fun c xs q => by rw [upd_ne (ne_of_none q hn)]; exact q
end

/-- what may be read as u: it is u, or a known u -/
def Rd (H : Hp) (a : Addr) (u : HO) : Prop := H a = some u ∨ ∃ o, H a = some (.frz o u)
theorem Rd.of {H : Hp} {a : Addr} {u : HO} (h : H a = some u) : Rd H a u := .inl h
theorem Rd.ok {P : Program} {w : World} {H : Hp} {h : Heap} {a : Addr} {u : HO} (r : Rd H a u) (x : HOk P w H h) : ObjOk P w H h a u := by
  rcases r with r | ⟨o, r⟩
  · exact x a u r
  · obtain ⟨_, q⟩ := x a _ r
    exact q
/-- what may be written -/
def Mut : Option HO → Prop
  | some (.lst _) => True
  | some (.dK _) => True
  | some (.dT _) => True
  | some (.set _ _) => True
  | some (.ins _ _ _) => True
  | some (.ext _) => True
  | _ => False
section
variable {P : Program} {w : World} {H : Hp} {h h' : Heap} {x e : Addr} {o' : HO}
/-- the object at e is changed: x itself, or the dict of the instance x -/
theorem HOk.write (ok : HOk P w H h) (mu : Mut (H x)) (he : e = x ∨ H e = some (.own x)) (k : ∀ b u, b ≠ e → h.get? b = some u → h'.get? b = some u) (heo : ∃ u, h'.get? e = some u)
    (new : ObjOk P w (upd H x o') h' x o') : HOk P w (upd H x o') h' := fun b u q => by
  have nown : ∀ c y, H c = some (.own y) → c ≠ x := fun c y r z => by subst z; rw [r] at mu; exact mu
  have ntup : ∀ c xs, H c = some (.tup xs) → c ≠ x := fun c xs r z => by subst z; rw [r] at mu; exact mu
  by_cases hb : b = x
  · subst hb; rw [upd_same] at q; cases q; exact new
  · rw [upd_ne hb] at q
    by_cases hbe : b = e
    · have q' : H b = some (.own x) := by
        rcases he with z | z
        · exact absurd (hbe.trans z) hb
        · rw [hbe]; exact z
      rw [q] at q'; cases q'
      obtain ⟨v, hv⟩ := heo
      exact ⟨v, by rw [hbe]; exact hv⟩
    · refine (ok b u q).stay (fun c v hc r => k c v ?_ r) (fun c r => by rw [upd_ne (nown c b r)]; exact r) fun c xs r => by rw [upd_ne (ntup c xs r)]; exact r
      rcases hc with rfl | hc
      · exact hbe
      · rintro rfl
        rcases he with z | z
        · exact nown c b hc z
        · rw [hc] at z; cases z; exact hb rfl
end

/-! ### kept unless tracked; of the frames at fs (the callers') the slots may change (an exception that passes writes there); of the records at ex (iterators) nothing is said -/
structure Un (fs ex : List Addr) (H H' : Hp) (h h' : Heap) : Prop where
  keep : ∀ b o, h.get? b = some o → H b = none → b ∉ fs → b ∉ ex → h'.get? b = some o
  slot : ∀ b o, h.get? b = some o → H b = none → b ∈ fs → b ∉ ex → ∃ sl, h'.get? b = some { o with slots := sl }
  free : ∀ b o, h.get? b = some o → H b = none → b ∉ ex → H' b = none
  there : ∀ b o, h.get? b = some o → b ∉ ex → ∃ o', h'.get? b = some o'
  tups : ∀ b xs, H b = some (.tup xs) → H' b = some (.tup xs)
  frzs : ∀ b o u, H b = some (.frz o u) → H' b = some (.frz o u)
  tbls : ∀ b ps, H b = some (.tbl ps) → ∃ more, H' b = some (.tbl (ps ++ more))
section
variable {fs fs' ex ex' : List Addr} {H H1 H2 : Hp} {h h1 h2 h' : Heap} {a x e : Addr} {o : HO}
theorem Un.any (u : Un fs ex H H1 h h1) {b : Addr} {ob : Obj} (q : h.get? b = some ob) (n : H b = none) (hx : b ∉ ex) : ∃ sl, h1.get? b = some { ob with slots := sl } := by
  by_cases hb : b ∈ fs
  · exact u.slot b ob q n hb hx
  · exact ⟨ob.slots, u.keep b ob q n hb hx⟩
theorem Un.trans (a : Un fs ex H H1 h h1) (b : Un fs ex H1 H2 h1 h2) : Un fs ex H H2 h h2 where
  keep := fun c ob q n hc hx => b.keep c ob (a.keep c ob q n hc hx) (a.free c ob q n hx) hc hx
  slot := fun c ob q n hc hx => by
    obtain ⟨sl, e1⟩ := a.slot c ob q n hc hx
    obtain ⟨sl', e2⟩ := b.slot c _ e1 (a.free c ob q n hx) hc hx
    exact ⟨sl', e2⟩
  free := fun c ob q n hx => by
    obtain ⟨o', e1⟩ := a.there c ob q hx
    exact b.free c o' e1 (a.free c ob q n hx) hx
  there := fun c ob q hx => by
    obtain ⟨o', e1⟩ := a.there c ob q hx
    exact b.there c o' e1 hx
  tups := fun c xs q => b.tups c xs (a.tups c xs q)
  frzs := fun c ob xs q => b.frzs c ob xs (a.frzs c ob xs q)
  tbls := fun c ps q => by
    obtain ⟨m1, e1⟩ := a.tbls c ps q
    obtain ⟨m2, e2⟩ := b.tbls c _ e1
    exact ⟨m1 ++ m2, by rw [e2, Array.append_assoc]⟩
theorem Un.kept (k : ∀ b u, h.get? b = some u → h'.get? b = some u) : Un fs ex H H h h' :=
  ⟨fun b ob q _ _ _ => k b ob q, fun b ob q _ _ _ => ⟨ob.slots, k b ob q⟩, fun _ _ _ n _ => n, fun b ob q _ => ⟨ob, k b ob q⟩, fun _ _ q => q, fun _ _ _ q => q, fun _ ps q => ⟨#[], by rw [q]; simp⟩⟩
theorem Un.refl : Un fs ex H H h h := Un.kept fun _ _ q => q
theorem Un.laid (k : ∀ b u, h.get? b = some u → h'.get? b = some u) (hp : h.objs.size ≤ a) (hn : H a = none) : Un fs ex H (upd H a o) h h' where
  keep := fun b u q _ _ _ => k b u q
  slot := fun b u q _ _ _ => ⟨u.slots, k b u q⟩
  free := fun b u q n _ => by rw [upd_ne (Nat.ne_of_lt (Nat.lt_of_lt_of_le (Heap.lt_size q) hp))]; exact n
  there := fun b u q _ => ⟨u, k b u q⟩
  tups := fun b xs q => by rw [upd_ne (ne_of_none q hn)]; exact q
  frzs := fun b u xs q => by rw [upd_ne (ne_of_none q hn)]; exact q
  tbls := fun b ps q => ⟨#[], by rw [upd_ne (ne_of_none q hn), q]; simp⟩
theorem Un.write (mu : Mut (H x)) (he : e = x ∨ H e = some (.own x)) (k : ∀ b u, b ≠ e → h.get? b = some u → h'.get? b = some u) (heo : ∃ u, h'.get? e = some u) : Un fs ex H (upd H x o) h h' := by
  have hx : ∀ b, H b = none → b ≠ x := fun b n z => by subst z; rw [n] at mu; exact mu
  have hb : ∀ b, H b = none → b ≠ e := fun b n z => by
    subst z
    rcases he with r | r
    · exact hx b n r
    · rw [n] at r; cases r
  have hm : ∀ b u, H b = some u → ¬ Mut (some u) → b ≠ x := fun b u q nm z => by subst z; rw [q] at mu; exact nm mu
  refine ⟨fun b u q n _ _ => k b u (hb b n) q, fun b u q n _ _ => ⟨u.slots, k b u (hb b n) q⟩, fun b u q n _ => by rw [upd_ne (hx b n)]; exact n, fun b u q _ => ?_,
    fun b xs q => by rw [upd_ne (hm b _ q fun z => z)]; exact q, fun b u xs q => by rw [upd_ne (hm b _ q fun z => z)]; exact q, fun b ps q => ⟨#[], by rw [upd_ne (hm b _ q fun z => z), q]; simp⟩⟩
  by_cases hbe : b = e
  · subst hbe; exact heo
  · exact ⟨u, k b u hbe q⟩
theorem Un.mono (u : Un fs ex H H1 h h1) (hs : ∀ b ∈ fs, b ∈ fs') (hx : ∀ b ∈ ex, b ∈ ex') : Un fs' ex' H H1 h h1 :=
  ⟨fun b ob q n hb he => u.keep b ob q n (fun z => hb (hs b z)) fun z => he (hx b z), fun _ _ q n _ he => u.any q n fun z => he (hx _ z), fun b ob q n he => u.free b ob q n fun z => he (hx b z), fun b ob q he => u.there b ob q fun z => he (hx b z), u.tups, u.frzs, u.tbls⟩
end

/-! ### the heap without what is tracked -/
def trk (h : Heap) (H : Hp) : List Addr := (List.range h.objs.size).filter fun a => (H a).isSome
def hidT (h : Heap) (H : Hp) : Heap := PySem.W.hideAll h (trk h H)
theorem hidT_size (h : Heap) (H : Hp) : (hidT h H).objs.size = h.objs.size := PySem.W.hideAll_size _ _
theorem hidT_get {h : Heap} {H : Hp} {b : Addr} {o : Obj} (e : h.get? b = some o) (n : H b = none) : (hidT h H).get? b = some o :=
  PySem.W.hideAll_get _ e fun hm => by
    have q : (H b).isSome = true := (List.mem_filter.mp hm).2
    rw [n] at q; simp at q
theorem of_hidT {h : Heap} {H : Hp} {b : Addr} {o : Obj} (e : (hidT h H).get? b = some o) : h.get? b = some o ∧ H b = none := by
  have e' : h.get? b = some o := PySem.W.of_hideAll (trk h H) e
  refine ⟨e', ?_⟩
  cases q : H b with
  | none => rfl
  | some x =>
    have hm : b ∈ trk h H := List.mem_filter.mpr ⟨List.mem_range.mpr (Heap.lt_size e'), by simp [q]⟩
    have z : (hidT h H).get? b = none := PySem.W.hideAll_none (trk h H) hm
    rw [z] at e; cases e

/-! ### OpenK's ledger, filled with every new object but one -/
def allNews (g h : Heap) (L : Addr) : List (Addr × Obj) := (List.range h.objs.size).filterMap fun a => if a = L ∨ (g.get? a).isSome = true then none else (h.get? a).map fun o => (a, o)
theorem mem_allNews {g h : Heap} {L a : Addr} {o : Obj} (h1 : a ≠ L) (h2 : g.get? a = none) (h3 : h.get? a = some o) : (a, o) ∈ allNews g h L :=
  List.mem_filterMap.mpr ⟨a, List.mem_range.mpr (Heap.lt_size h3), by simp [h1, h2, h3]⟩
theorem of_mem_allNews {g h : Heap} {L : Addr} {p : Addr × Obj} (hp : p ∈ allNews g h L) : p.1 ≠ L ∧ g.get? p.1 = none ∧ h.get? p.1 = some p.2 := by
  obtain ⟨b, _, e⟩ := List.mem_filterMap.mp hp
  split at e
  · cases e
  · rename_i hn
    cases q : h.get? b with
    | none => rw [q] at e; simp at e
    | some u =>
      rw [q] at e
      simp only [Option.map_some, Option.some.injEq] at e
      subst e
      refine ⟨fun z => hn (.inl z), ?_, q⟩
      show g.get? b = none
      cases r : g.get? b with
      | none => rfl
      | some v => exact (hn (.inr (by simp [r]))).elim
def rest (g h : Heap) (L d : Addr) : List (Addr × Obj) := (allNews g h L).filter fun p => decide (p.1 ≠ d)
theorem rest_ne {g h : Heap} {L d : Addr} : ∀ p ∈ rest g h L d, p.1 ≠ d := fun p hp => of_decide_eq_true (List.mem_filter.mp hp).2
theorem mem_rest {g h : Heap} {L d a : Addr} {o : Obj} (h1 : a ≠ L) (h2 : g.get? a = none) (h3 : h.get? a = some o) (h4 : a ≠ d) : (a, o) ∈ rest g h L d :=
  List.mem_filter.mpr ⟨mem_allNews h1 h2 h3, decide_eq_true h4⟩
theorem news_all {g h : Heap} {L : Addr} : News g L h (allNews g h L) := fun p hp => let ⟨a, b, c⟩ := of_mem_allNews hp; ⟨c, a, b⟩
theorem news_at {g h : Heap} {L d : Addr} {o : Obj} (h1 : d ≠ L) (h2 : g.get? d = none) (h3 : h.get? d = some o) : News g L h ((d, o) :: rest g h L d) := fun p hp => by
  rcases List.mem_cons.mp hp with rfl | hp
  · exact ⟨h3, h1, h2⟩
  · exact news_all p (List.mem_filter.mp hp).1
/-- behind a rule that changed d alone: all else but the frame is kept -/
theorem kept_of_news {g h h' : Heap} {L d : Addr} {m : Str → Option Value} (k : ∀ b o, g.get? b = some o → h.get? b = some o) (F : Fr g L h' m) (N : News g L h' (rest g h L d)) :
    ∀ b o, b ≠ L → b ≠ d → h.get? b = some o → h'.get? b = some o := fun b o h1 h2 e => by
  cases q : g.get? b with
  | some u =>
    have := k b u q
    rw [e] at this; cases this
    exact F.keep b _ q
  | none => exact (N (b, o) (mem_rest h1 q e h2)).1
end L2

namespace L2
open PySem PySem.Spec PyProof.Rows

/-- the module's facts, over the base: the heap at the law's entry without what is tracked there -/
structure Mod (K : PySem.W.Frag) (mg : Str → Option Value) (base : Heap) : Prop where
  kin : K.In base
  glob : base.Ns mainGlobals mg
  blt : ∃ mb, base.Ns builtinsNs mb ∧ ∀ x : Str, x ≠ "__name__" → mb x = bootBuiltins x
  nolimit : base.NoLimit
  sysm : ∃ o es ep, base.get? sysModules = some o ∧ o.data = .dict es ep

/-- the context: a def's body (or a comprehension's block) running. base: fixed through the whole law; s₀, H₀: the entry; outer: the frames whose slots others may change (a def's callers); stack: all frames that run;
   ex: iterators that were made ahead of the entry and are walked here (a comprehension's); fn: the names whose cells were made at the entry (a def: all; a comprehension's block: its own); calm: not within an except suite; pn: pins that every state bears; xe: what is wanted of an exception that leaves the code -/
structure Cx where
  prog : Program
  w : World
  K : PySem.W.Frag
  mg : Str → Option Value
  base : Heap
  A : Around
  N : List Str
  s₀ : Shared
  H₀ : Hp
  env : Env
  outer : List Env
  stack : List Env
  ex : List Addr
  fn : Str → Bool
  calm : Bool
  pn : List (Addr × Obj)
  xe : Value → Shared → Prop
/-- the callers' frames -/
def frs (l : List Env) : List Addr := l.filterMap (·.frame)
abbrev Cx.fs (X : Cx) : List Addr := frs X.outer

def Vis (sc : Scope) (x : Str) : Prop := sc.names.lookup x = some .local ∨ sc.names.lookup x = some .cell ∨ sc.names.lookup x = some .free
def Loc (sc : Scope) (x : Str) : Prop := sc.names.lookup x = some .local ∨ sc.names.lookup x = some .cell
def Look (env : Env) (h : Heap) (m : Str → Option Value) (x : Str) (u : Value) : Prop :=
  (env.kindOf x = some .local ∧ m x = some u) ∨ ((env.kindOf x = some .cell ∨ env.kindOf x = some .free) ∧ ∃ c, env.cells.lookup x = some c ∧ h.IsCell c (some u))

structure Cx.Ok (X : Cx) : Prop where
  mod : Mod X.K X.mg X.base
  kind : X.env.scope.kind = .function
  glob : X.env.globals = mainGlobals
  blt : X.env.builtins = builtinsNs
  above : X.s₀.heap.objs.size ≤ X.env.locals
  inj : ∀ x y c, X.env.cells.lookup x = some c → X.env.cells.lookup y = some c → x = y
  has : ∀ x, (X.env.kindOf x = some .cell ∨ X.env.kindOf x = some .free) → ∃ c, X.env.cells.lookup x = some c
  cab : ∀ x c, X.fn x = true → X.env.cells.lookup x = some c → X.s₀.heap.objs.size ≤ c
  hd : X.calm = true → X.A.handled = none
  frames : X.A.frames = some X.stack
  stk : X.stack = X.outer ∨ (X.stack = X.env :: X.outer ∧ X.env.frame = some X.env.locals)
  exf : ∀ b ∈ X.ex, b ≠ X.env.locals ∧ ∀ x c, X.env.cells.lookup x = some c → c ≠ b
  bs : ∀ b o, X.base.get? b = some o → X.s₀.heap.get? b = some o ∧ X.H₀ b = none
  bsz : X.base.objs.size ≤ X.s₀.heap.objs.size
  noex : ∀ b o, X.base.get? b = some o → b ∉ X.ex
  exfs : ∀ b ∈ X.ex, b ∉ X.fs
  funs : X.s₀.heap.FunFrames X.base X.outer
  frf : ∀ b ∈ X.fs, X.H₀ b = none

structure Inv (X : Cx) (pins : List (Addr × Obj)) (σ : List (Option V)) (H : Hp) (s : Shared) : Prop where
  ok : X.Ok
  os : s.os = X.s₀.os
  bare : AllBare s.gens
  base : Un X.fs X.ex X.H₀ H X.s₀.heap s.heap
  loc : ∃ m, s.heap.Ns X.env.locals m ∧ ∀ (i : Nat) (x : Str) (v : V), X.N[i]? = some x → σ[i]? = some (some v) → Vis X.env.scope x → ∃ u, RelV v u ∧ Look X.env s.heap m x u
  cell : ∀ x c, X.env.cells.lookup x = some c → ∃ v, s.heap.IsCell c v
  free : H X.env.locals = none
  freeC : ∀ x c, X.env.cells.lookup x = some c → H c = none
  pin : ∀ p ∈ X.pn ++ pins, s.heap.get? p.1 = some p.2 ∧ H p.1 = none ∧ p.1 ≠ X.env.locals ∧ p.1 ∉ X.fs ∧ ∀ v, p.2.data ≠ .cell v
  hok : HOk X.prog X.w H s.heap
  len : σ.length = X.N.length

section
variable {X : Cx} {pins : List (Addr × Obj)} {σ : List (Option V)} {H H' : Hp} {s : Shared} {h' : Heap}

theorem Cx.Ok.nofr (ok : X.Ok) {b : Addr} {o : Obj} (e : X.base.get? b = some o) : b ∉ X.fs := fun hb => by
  have := (ok.funs.mem hb).1
  rw [e] at this; cases this
theorem Inv.bs (I : Inv X pins σ H s) : ∀ b o, X.base.get? b = some o → s.heap.get? b = some o ∧ H b = none := fun b o e =>
  ⟨I.base.keep b o (I.ok.bs b o e).1 (I.ok.bs b o e).2 (I.ok.nofr e) (I.ok.noex b o e), I.base.free b o (I.ok.bs b o e).1 (I.ok.bs b o e).2 (I.ok.noex b o e)⟩
theorem Inv.bk (I : Inv X pins σ H s) : ∀ b o, X.base.get? b = some o → s.heap.get? b = some o := fun b o e => (I.bs b o e).1
theorem Inv.mod (I : Inv X pins σ H s) : Mod X.K X.mg X.base := I.ok.mod
theorem Inv.kIn (I : Inv X pins σ H s) : X.K.In s.heap := I.ok.mod.kin.keeps I.bk
theorem Inv.nolimit (I : Inv X pins σ H s) : s.heap.NoLimit := I.ok.mod.nolimit.keeps I.bk
/-- the frame over the base: for OpenK's rules (K.In X.base is I.mod.kin) -/
theorem Inv.fr (I : Inv X pins σ H s) : ∃ m, Fr X.base X.env.locals s.heap m :=
  let ⟨m, hn, _⟩ := I.loc
  ⟨m, hn, I.bk, Nat.le_trans I.ok.bsz I.ok.above⟩
theorem Inv.lt (I : Inv X pins σ H s) : X.env.locals < s.heap.objs.size := let ⟨_, hn, _⟩ := I.loc; hn.lt
theorem Inv.sz (I : Inv X pins σ H s) : X.s₀.heap.objs.size ≤ s.heap.objs.size := Nat.le_trans I.ok.above (Nat.le_of_lt I.lt)
theorem Inv.nofs (I : Inv X pins σ H s) {a : Addr} (h : s.heap.objs.size ≤ a) : a ∉ X.fs := fun hb => by
  obtain ⟨_, o, ho, _⟩ := I.ok.funs.mem hb
  exact absurd (Nat.lt_of_lt_of_le (Heap.lt_size ho) (Nat.le_trans I.sz h)) (Nat.lt_irrefl _)
theorem Inv.cne (I : Inv X pins σ H s) : ∀ x c, X.env.cells.lookup x = some c → c ≠ X.env.locals := fun x c e z => by
  obtain ⟨v, o, ho, hd⟩ := I.cell x c e
  obtain ⟨m, ⟨o', es, ep, ho', hd', _⟩, _⟩ := I.loc
  rw [z, ho'] at ho; cases ho; rw [hd'] at hd; cases hd
theorem Inv.funs (I : Inv X pins σ H s) : s.heap.FunFrames X.base X.outer := by
  have all : ∀ (l : List Env), (∀ b ∈ frs l, b ∈ X.fs) → X.s₀.heap.FunFrames X.base l → s.heap.FunFrames X.base l := by
    intro l
    induction l with
    | nil => intro _ _; trivial
    | cons env r ih =>
      intro hs hl
      obtain ⟨hk, ⟨L, o, hf, hn, ho, hd⟩, hr⟩ := hl
      have hL : L ∈ X.fs := hs L (by unfold frs; rw [List.filterMap_cons, hf]; exact List.mem_cons_self)
      obtain ⟨sl, e⟩ := I.base.slot L o ho (I.ok.frf L hL) hL fun z => I.ok.exfs L z hL
      exact ⟨hk, ⟨L, _, hf, hn, e, hd⟩, ih (fun b hb => hs b (by unfold frs; rw [List.filterMap_cons, hf]; exact List.mem_cons_of_mem _ hb)) hr⟩
  exact all X.outer (fun _ hb => hb) I.ok.funs

/-- the frames that run, for a call -/
theorem Inv.stack (I : Inv X pins σ H s) : s.heap.FunFrames X.base X.stack := by
  rcases I.ok.stk with e | ⟨e, hf⟩
  · rw [e]; exact I.funs
  · rw [e]
    obtain ⟨m, hn, _⟩ := I.loc
    refine .cons (by rw [I.ok.kind]; decide) hf hn ?_ I.funs
    exact Heap.get?_none_of_le (Nat.le_trans I.ok.bsz I.ok.above)
theorem Inv.stkSub (I : Inv X pins σ H s) : ∀ b ∈ frs X.stack, b ∈ X.env.locals :: X.fs := fun b hb => by
  rcases I.ok.stk with e | ⟨e, hf⟩
  · rw [e] at hb; exact List.mem_cons_of_mem _ hb
  · rw [e] at hb
    unfold frs at hb
    rw [List.filterMap_cons, hf] at hb
    exact hb
theorem Inv.stkFree (I : Inv X pins σ H s) : ∀ b ∈ frs X.stack, H b = none := fun b hb => by
  rcases List.mem_cons.mp (I.stkSub b hb) with e | hb
  · rw [e]; exact I.free
  · obtain ⟨_, o, ho, _⟩ := I.ok.funs.mem hb
    exact I.base.free b o ho (I.ok.frf b hb) fun z => I.ok.exfs b z hb

/-- THE STEP: the untracked objects but the frame and the records at ch are kept (the callers' frames up to slots), the frame's map is kept, the new abstract heap is held -/
theorem Inv.step {g' : Array GenState} {t' : Nat} {d' : Drawn} {ch : List Addr} (I : Inv X pins σ H s)
    (hch : ∀ b ∈ ch, (b ∈ X.ex ∨ X.s₀.heap.objs.size ≤ b) ∧ b ≠ X.env.locals ∧ (∀ x c, X.env.cells.lookup x = some c → c ≠ b) ∧ ∀ p ∈ X.pn ++ pins, p.1 ≠ b)
    (keep : ∀ b o, b ≠ X.env.locals → b ∉ X.fs → b ∉ ch → s.heap.get? b = some o → H b = none → h'.get? b = some o)
    (slot : ∀ b o, b ≠ X.env.locals → b ∈ X.fs → b ∉ ch → s.heap.get? b = some o → H b = none → ∃ sl, h'.get? b = some { o with slots := sl }) (free : ∀ b o, b ∉ ch → s.heap.get? b = some o → H b = none → H' b = none)
    (there : ∀ b o, b ∉ ch → s.heap.get? b = some o → ∃ o', h'.get? b = some o')
    (tups : ∀ b xs, H b = some (.tup xs) → H' b = some (.tup xs)) (frzs : ∀ b o u, H b = some (.frz o u) → H' b = some (.frz o u)) (tbls : ∀ b ps, H b = some (.tbl ps) → ∃ more, H' b = some (.tbl (ps ++ more)))
    (ns : ∀ m, s.heap.Ns X.env.locals m → h'.Ns X.env.locals m) (hok : HOk X.prog X.w H' h') (hg : AllBare g') :
    Inv X pins σ H' { s with heap := h', gens := g', drawn := d', toks := t' } := by
  have neL : ∀ b o, X.s₀.heap.get? b = some o → b ≠ X.env.locals := fun b o e => Nat.ne_of_lt (Nat.lt_of_lt_of_le (Heap.lt_size e) I.ok.above)
  have neC : ∀ b o, X.s₀.heap.get? b = some o → b ∉ X.ex → b ∉ ch := fun b o e hx hb => by
    rcases (hch b hb).1 with z | z
    · exact hx z
    · exact absurd (Nat.lt_of_lt_of_le (Heap.lt_size e) z) (Nat.lt_irrefl _)
  have cellK : ∀ x c, X.env.cells.lookup x = some c → ∀ v, s.heap.IsCell c v → h'.IsCell c v := fun x c e v ⟨o, ho, hd⟩ => by
    have nch : c ∉ ch := fun z => (hch c z).2.2.1 x c e rfl
    by_cases hc : c ∈ X.fs
    · obtain ⟨sl, q⟩ := slot c o (I.cne x c e) hc nch ho (I.freeC x c e)
      exact ⟨_, q, hd⟩
    · exact ⟨o, keep c o (I.cne x c e) hc nch ho (I.freeC x c e), hd⟩
  refine ⟨I.ok, I.os, hg, ⟨fun b o e n hb hx => ?_, fun b o e n hb hx => ?_, fun b o e n hx => ?_, fun b o e hx => ?_, fun b xs e => tups b xs (I.base.tups b xs e), fun b o xs e => frzs b o xs (I.base.frzs b o xs e), fun b ps e => ?_⟩, ?_, fun x c e => ?_, ?_, fun x c e => ?_, fun p hp => ?_, hok, I.len⟩
  · exact keep b o (neL b o e) hb (neC b o e hx) (I.base.keep b o e n hb hx) (I.base.free b o e n hx)
  · obtain ⟨sl, e1⟩ := I.base.slot b o e n hb hx
    obtain ⟨sl', e2⟩ := slot b _ (neL b o e) hb (neC b o e hx) e1 (I.base.free b o e n hx)
    exact ⟨sl', e2⟩
  · obtain ⟨o', e1⟩ := I.base.there b o e hx
    exact free b o' (neC b o e hx) e1 (I.base.free b o e n hx)
  · obtain ⟨o', e1⟩ := I.base.there b o e hx
    exact there b o' (neC b o e hx) e1
  · obtain ⟨m1, e1⟩ := I.base.tbls b ps e
    obtain ⟨m2, e2⟩ := tbls b _ e1
    exact ⟨m1 ++ m2, by rw [e2, Array.append_assoc]⟩
  · obtain ⟨m, hn, hl⟩ := I.loc
    refine ⟨m, ns m hn, fun i x v e1 e2 e3 => ?_⟩
    obtain ⟨u, r, l⟩ := hl i x v e1 e2 e3
    refine ⟨u, r, ?_⟩
    rcases l with l | ⟨k, c, e, z⟩
    · exact .inl l
    · exact .inr ⟨k, c, e, cellK x c e _ z⟩
  · obtain ⟨v, z⟩ := I.cell x c e
    exact ⟨v, cellK x c e v z⟩
  · obtain ⟨m, ⟨o, _, _, ho, _⟩, _⟩ := I.loc
    exact free _ o (fun z => (hch _ z).2.1 rfl) ho I.free
  · obtain ⟨v, o, ho, hd⟩ := I.cell x c e
    exact free c o (fun z => (hch c z).2.2.1 x c e rfl) ho (I.freeC x c e)
  · obtain ⟨e, n, ne, nf, d⟩ := I.pin p hp
    have nch : p.1 ∉ ch := fun z => (hch p.1 z).2.2.2 p hp rfl
    exact ⟨keep p.1 p.2 ne nf nch e n, free p.1 p.2 nch e n, ne, nf, d⟩
/-- .. where the frame's own object is kept too -/
theorem Inv.un {t' : Nat} (I : Inv X pins σ H s) (u : Un X.fs [] H H' s.heap h') (hok : HOk X.prog X.w H' h') : Inv X pins σ H' { s with heap := h', toks := t' } := by
  obtain ⟨m, ⟨o, es, ep, ho, r⟩, _⟩ := id I.loc
  obtain ⟨sl, hL⟩ := u.any ho I.free (by simp)
  exact I.step (g' := s.gens) (d' := s.drawn) (ch := []) (fun _ z => nomatch z) (fun b o _ hb _ e n => u.keep b o e n hb (by simp)) (fun b o _ hb _ e n => u.slot b o e n hb (by simp)) (fun b o _ e n => u.free b o e n (by simp)) (fun b o _ e => u.there b o e (by simp)) u.tups u.frzs u.tbls (fun m' hm => by
    obtain ⟨o', es', ep', ho', r'⟩ := hm
    rw [ho] at ho'; cases ho'
    exact ⟨_, es', ep', hL, r'⟩) hok I.bare
/-- behind a call (or a comprehension's block): the slots of this frame may have changed too, the records at ch may have turned -/
theorem Inv.call {g' : Array GenState} {t' : Nat} {d' : Drawn} {ch : List Addr} (I : Inv X pins σ H s) (u : Un (frs X.stack) ch H H' s.heap h') (hok : HOk X.prog X.w H' h') (hg : AllBare g')
    (hch : ∀ b ∈ ch, (b ∈ X.ex ∨ X.s₀.heap.objs.size ≤ b) ∧ b ≠ X.env.locals ∧ (∀ x c, X.env.cells.lookup x = some c → c ≠ b) ∧ ∀ p ∈ X.pn ++ pins, p.1 ≠ b) :
    Inv X pins σ H' { s with heap := h', gens := g', drawn := d', toks := t' } := by
  obtain ⟨m, ⟨o, es, ep, ho, r⟩, _⟩ := id I.loc
  obtain ⟨sl, hL⟩ := u.any ho I.free fun z => (hch _ z).2.1 rfl
  exact I.step (ch := ch) hch (fun b o hL hb hc e n => u.keep b o e n (fun z => (List.mem_cons.mp (I.stkSub b z)).elim hL hb) hc) (fun b o _ _ hc e n => u.any e n hc) (fun b o hc e n => u.free b o e n hc) (fun b o hc e => u.there b o e hc) u.tups u.frzs u.tbls (fun m' hm => by
    obtain ⟨o', es', ep', ho', r'⟩ := hm
    rw [ho] at ho'; cases ho'
    exact ⟨_, es', ep', hL, r'⟩) hok hg
/-- an untracked record of ours (an iterator) has turned -/
theorem Inv.turned {t' : Nat} {it : Addr} (I : Inv X pins σ H s) (k : ∀ b o, b ≠ it → s.heap.get? b = some o → h'.get? b = some o) (hn : H it = none) (hL : it ≠ X.env.locals)
    (h1 : it ∈ X.ex ∨ X.s₀.heap.objs.size ≤ it) (h2 : ∀ x c, X.env.cells.lookup x = some c → c ≠ it) (h3 : ∀ p ∈ X.pn ++ pins, p.1 ≠ it) : Inv X pins σ H { s with heap := h', toks := t' } := by
  have nit : ∀ b u, H b = some u → b ≠ it := fun b u e z => by rw [z, hn] at e; cases e
  refine I.step (g' := s.gens) (d' := s.drawn) (ch := [it]) (fun b hb => ?_) (fun b o _ _ hc e _ => k b o (fun z => hc (by simp [z])) e) (fun b o _ _ hc e _ => ⟨o.slots, k b o (fun z => hc (by simp [z])) e⟩) (fun _ _ _ _ n => n)
    (fun b o hc e => ⟨o, k b o (fun z => hc (by simp [z])) e⟩) (fun _ _ e => e) (fun _ _ _ e => e) (fun b ps e => ⟨#[], by rw [e]; simp⟩) (fun m hm => ?_) (fun b u e => ?_) I.bare
  · have e : b = it := by simpa using hb
    subst e
    exact ⟨h1, hL, h2, h3⟩
  · obtain ⟨o, es, ep, ho, r⟩ := hm
    exact ⟨o, es, ep, k _ o (Ne.symm hL) ho, r⟩
  · refine (I.hok b u e).stay (fun c v hc q => k c v ?_ q) (fun _ q => q) fun _ _ q => q
    rcases hc with z | z
    · rw [z]; exact nit b u e
    · exact nit c _ z
theorem Inv.tok (I : Inv X pins σ H s) (t : Nat) : Inv X pins σ H { s with toks := t } := I.un (h' := s.heap) (t' := t) Un.refl I.hok
/-- all objects kept -/
theorem Inv.kept {t' : Nat} (I : Inv X pins σ H s) (k : ∀ b u, s.heap.get? b = some u → h'.get? b = some u) : Inv X pins σ H { s with heap := h', toks := t' } := I.un (Un.kept k) (I.hok.kept k)
/-- a new object laid and tracked -/
theorem Inv.laid {a : Addr} {o : HO} {t' : Nat} (I : Inv X pins σ H s) (k : ∀ b u, s.heap.get? b = some u → h'.get? b = some u) (hp : s.heap.objs.size ≤ a) (new : ObjOk X.prog X.w (upd H a o) h' a o) :
    Inv X pins σ (upd H a o) { s with heap := h', toks := t' } := I.un (Un.laid k hp (I.hok.fresh hp)) (I.hok.laid k hp new)
/-- an object written -/
theorem Inv.write {x e : Addr} {o : HO} {t' : Nat} (I : Inv X pins σ H s) (mu : Mut (H x)) (he : e = x ∨ H e = some (.own x)) (k : ∀ b u, b ≠ e → s.heap.get? b = some u → h'.get? b = some u) (heo : ∃ u, h'.get? e = some u)
    (new : ObjOk X.prog X.w (upd H x o) h' x o) : Inv X pins σ (upd H x o) { s with heap := h', toks := t' } := I.un (Un.write mu he k heo) (I.hok.write mu he k heo new)
/-- forgetting slots, pins -/
theorem Inv.weak {σ' : List (Option V)} (I : Inv X pins σ H s) (hl : σ'.length = σ.length) (w : ∀ (i : Nat) v, σ'[i]? = some (some v) → σ[i]? = some (some v)) : Inv X pins σ' H s :=
  ⟨I.ok, I.os, I.bare, I.base, let ⟨m, hn, hl'⟩ := I.loc; ⟨m, hn, fun i x v e1 e2 e3 => hl' i x v e1 (w i v e2) e3⟩, I.cell, I.free, I.freeC, I.pin, I.hok, hl.trans I.len⟩
theorem Inv.pins_of {pins' : List (Addr × Obj)} (I : Inv X pins σ H s) (h : ∀ p ∈ pins', s.heap.get? p.1 = some p.2 ∧ H p.1 = none ∧ p.1 ≠ X.env.locals ∧ p.1 ∉ X.fs ∧ ∀ v, p.2.data ≠ .cell v) : Inv X pins' σ H s :=
  ⟨I.ok, I.os, I.bare, I.base, I.loc, I.cell, I.free, I.freeC, fun p hp => (List.mem_append.mp hp).elim (fun z => I.pin p (List.mem_append_left _ z)) (h p), I.hok, I.len⟩

theorem nodup_ix {N : List Str} (hN : N.Nodup) {i j : Nat} {x : Str} (a : N[i]? = some x) (b : N[j]? = some x) : i = j := by
  obtain ⟨h1, e1⟩ := List.getElem?_eq_some_iff.mp a
  obtain ⟨h2, e2⟩ := List.getElem?_eq_some_iff.mp b
  exact (List.getElem_inj hN).mp (e1.trans e2.symm)

/-- a name is stored; what changed -/
theorem store_ok2 {M : Model} {A : Around} {E : Value → Shared → Prop} {i : Nat} {x : Str} {v : V} {u : Value} {Q : Unit → Shared → Prop} (I : Inv X pins σ H s) (hN : X.N.Nodup) (hi : X.N[i]? = some x) (hx : Loc X.env.scope x) (r : RelV v u)
    (h : ∀ s', Inv X pins (σ.set i (some v)) H s' → (∃ a, Heap.SameBut a s.heap s'.heap ∧ (a = X.env.locals ∨ X.env.cells.lookup x = some a)) → Q () s') (hf : X.fn x = true ∨ X.env.scope.names.lookup x = some .local := by first | exact .inl rfl | exact .inr rfl | assumption) : wpAny M A (storeName X.env x u) Q E s := by
  obtain ⟨m, hn, hl⟩ := id I.loc
  have hcls : (X.env.scope.kind == .class || (X.env.scope.kind == .module && X.env.locals != X.env.globals)) = false := by rw [I.ok.kind]; rfl
  have hiσ : i < σ.length := by rw [I.len]; exact (List.getElem?_eq_some_iff.mp hi).1
  have cne := I.cne
  have tracked : ∀ {a : Addr} {h' : Heap}, (∃ o, s.heap.get? a = some o ∧ H a = none) → Heap.SameBut a s.heap h' → HOk X.prog X.w H h' := fun {a h'} ha hs b ob e => by
    obtain ⟨_, _, hfree⟩ := ha
    refine (I.hok b ob e).stay (fun c w' hc q => (hs.2 c ?_).trans q) (fun _ q => q) fun _ _ q => q
    rintro rfl
    rcases hc with rfl | hc
    · rw [hfree] at e; cases e
    · rw [hfree] at hc; cases hc
  rcases hx with hk | hk
  · refine wpAny_storeName_local hk hn (fun h' hn' hs => ?_) hcls
    obtain ⟨oL, _, _, hoL, _⟩ := id hn
    refine h _ ⟨I.ok, I.os, I.bare, ⟨fun b o e n hb hx => ?_, fun b o e n hb hx => ?_, I.base.free, fun b o e hx => ?_, I.base.tups, I.base.frzs, I.base.tbls⟩, ⟨_, hn', fun j y v' e1 e2 e3 => ?_⟩, fun y c e => ?_, I.free, I.freeC, fun p hp => ?_, tracked ⟨oL, hoL, I.free⟩ hs, by simpa using I.len⟩ ⟨_, hs, .inl rfl⟩
    · exact (hs.2 b (Nat.ne_of_lt (Nat.lt_of_lt_of_le (Heap.lt_size e) I.ok.above))).trans (I.base.keep b o e n hb hx)
    · obtain ⟨sl, e1⟩ := I.base.slot b o e n hb hx
      exact ⟨sl, (hs.2 b (Nat.ne_of_lt (Nat.lt_of_lt_of_le (Heap.lt_size e) I.ok.above))).trans e1⟩
    · obtain ⟨o', e1⟩ := I.base.there b o e hx
      exact ⟨o', (hs.2 b (Nat.ne_of_lt (Nat.lt_of_lt_of_le (Heap.lt_size e) I.ok.above))).trans e1⟩
    · by_cases hj : j = i
      · subst hj
        rw [hi] at e1; cases e1
        rw [List.getElem?_set_self hiσ] at e2
        cases e2
        exact ⟨u, r, .inl ⟨hk, by simp⟩⟩
      · rw [List.getElem?_set_ne (Ne.symm hj)] at e2
        obtain ⟨u', r', q⟩ := hl j y v' e1 e2 e3
        refine ⟨u', r', ?_⟩
        rcases q with ⟨k, e⟩ | ⟨k, c, e, z⟩
        · refine .inl ⟨k, ?_⟩
          have : y ≠ x := fun e => hj (nodup_ix hN e1 (e ▸ hi))
          simp [this, e]
        · exact .inr ⟨k, c, e, z.sameBut hs (cne y c e)⟩
    · obtain ⟨w', z⟩ := I.cell y c e
      exact ⟨w', z.sameBut hs (cne y c e)⟩
    · obtain ⟨e, n, ne, nf, d⟩ := I.pin p hp
      exact ⟨(hs.2 p.1 ne).trans e, n, ne, nf, d⟩
  · have hfn : X.fn x = true := by
      rcases hf with z | z
      · exact z
      · rw [z] at hk; cases hk
    obtain ⟨c, hc⟩ := I.ok.has x (.inl hk)
    obtain ⟨w', z⟩ := I.cell x c hc
    refine wpAny_storeName_cell I.ok.kind hk hc z (fun h' hc' hs => ?_)
    obtain ⟨oc, hoc, hocd⟩ := id z
    refine h { s with heap := h' } ⟨I.ok, I.os, I.bare, ⟨fun b o e n hb hx => ?_, fun b o e n hb hx => ?_, I.base.free, fun b o e hx => ?_, I.base.tups, I.base.frzs, I.base.tbls⟩, ⟨m, hn.sameBut hs (Ne.symm (cne x c hc)), fun j y v' e1 e2 e3 => ?_⟩, fun y c' e => ?_, I.free, I.freeC, fun p hp => ?_, tracked ⟨oc, hoc, I.freeC x c hc⟩ hs, by simpa using I.len⟩ ⟨c, hs, .inr hc⟩
    · exact (hs.2 b (Nat.ne_of_lt (Nat.lt_of_lt_of_le (Heap.lt_size e) (I.ok.cab x c hfn hc)))).trans (I.base.keep b o e n hb hx)
    · obtain ⟨sl, e1⟩ := I.base.slot b o e n hb hx
      exact ⟨sl, (hs.2 b (Nat.ne_of_lt (Nat.lt_of_lt_of_le (Heap.lt_size e) (I.ok.cab x c hfn hc)))).trans e1⟩
    · obtain ⟨o', e1⟩ := I.base.there b o e hx
      exact ⟨o', (hs.2 b (Nat.ne_of_lt (Nat.lt_of_lt_of_le (Heap.lt_size e) (I.ok.cab x c hfn hc)))).trans e1⟩
    · by_cases hj : j = i
      · subst hj
        rw [hi] at e1; cases e1
        rw [List.getElem?_set_self hiσ] at e2
        cases e2
        exact ⟨u, r, .inr ⟨.inl hk, c, hc, hc'⟩⟩
      · rw [List.getElem?_set_ne (Ne.symm hj)] at e2
        obtain ⟨u', r', q⟩ := hl j y v' e1 e2 e3
        refine ⟨u', r', ?_⟩
        rcases q with q | ⟨k, c', e, z'⟩
        · exact .inl q
        · refine .inr ⟨k, c', e, z'.sameBut hs ?_⟩
          rintro rfl
          exact hj (nodup_ix hN e1 (I.ok.inj _ _ _ e hc ▸ hi))
    · by_cases hcc : c' = c
      · subst hcc; exact ⟨_, hc'⟩
      · obtain ⟨w2, z2⟩ := I.cell y c' e
        exact ⟨w2, z2.sameBut hs hcc⟩
    · obtain ⟨e, n, ne, nf, d⟩ := I.pin p hp
      refine ⟨(hs.2 p.1 ?_).trans e, n, ne, nf, d⟩
      intro q
      rw [q, hoc] at e
      have q' : oc = p.2 := Option.some.inj e
      exact d w' (by rw [← q']; exact hocd)
theorem store_ok {M : Model} {A : Around} {E : Value → Shared → Prop} {i : Nat} {x : Str} {v : V} {u : Value} {Q : Unit → Shared → Prop} (I : Inv X pins σ H s) (hN : X.N.Nodup) (hi : X.N[i]? = some x) (hx : Loc X.env.scope x) (r : RelV v u)
    (h : ∀ s', Inv X pins (σ.set i (some v)) H s' → Q () s') (hf : X.fn x = true ∨ X.env.scope.names.lookup x = some .local := by first | exact .inl rfl | exact .inr rfl | assumption) : wpAny M A (storeName X.env x u) Q E s :=
  store_ok2 I hN hi hx r (fun s' I' _ => h s' I') hf
/-- behind a call or a block, the state as it is -/
theorem Inv.call' {s' : Shared} {ch : List Addr} (I : Inv X pins σ H s) (ho : s'.os = s.os) (u : Un (frs X.stack) ch H H' s.heap s'.heap) (hok : HOk X.prog X.w H' s'.heap) (hg : AllBare s'.gens)
    (hch : ∀ b ∈ ch, (b ∈ X.ex ∨ X.s₀.heap.objs.size ≤ b) ∧ b ≠ X.env.locals ∧ (∀ x c, X.env.cells.lookup x = some c → c ≠ b) ∧ ∀ p ∈ X.pn ++ pins, p.1 ≠ b) : Inv X pins σ H' s' := by
  obtain ⟨h', g', d', t', o'⟩ := s'
  have e : o' = s.os := ho
  subst e
  exact I.call (g' := g') (t' := t') (d' := d') u hok hg hch
end

/-! ### the judgements -/
/-- an exception: its class, its own dict's address (where it has one), the abstract heap behind it -/
abbrev XK := Value → Option Addr → Hp → Prop
abbrev St := List (Option V)
abbrev VK := V → Hp → Prop
/-- an expression's reading; a test's; an argument list's -/
abbrev TE := St → Hp → VK → Prop
abbrev TT := St → Hp → (Bool → Hp → Prop) → Prop
abbrev TA := St → Hp → (List V → Hp → Prop) → Prop
/-- what is wanted behind a statement -/
structure Ends where
  nx : St → Hp → Prop
  rt : VK
  bk : St → Hp → Prop := fun _ _ => False
  ct : St → Hp → Prop := fun _ _ => False
abbrev TS := Ends → St → Hp → Prop

def EP (X : Cx) (pins : List (Addr × Obj)) (σ : St) (Q : VK) (u : Value) (s' : Shared) : Prop := ∃ v H', Inv X pins σ H' s' ∧ RelV v u ∧ Q v H'
def TP (X : Cx) (pins : List (Addr × Obj)) (σ : St) (Q : Bool → Hp → Prop) (b : Bool) (s' : Shared) : Prop := ∃ H', Inv X pins σ H' s' ∧ Q b H'
def AP (X : Cx) (pins : List (Addr × Obj)) (σ : St) (Q : List V → Hp → Prop) (us : List Value) (s' : Shared) : Prop := ∃ vs H', Inv X pins σ H' s' ∧ Vals vs us ∧ Q vs H'
def SP (X : Cx) (pins : List (Addr × Obj)) (D : Ends) (f : Flow) (s' : Shared) : Prop :=
  match f with
  | .next => ∃ σ' H', Inv X pins σ' H' s' ∧ D.nx σ' H'
  | .brk => ∃ σ' H', Inv X pins σ' H' s' ∧ D.bk σ' H'
  | .cont => ∃ σ' H', Inv X pins σ' H' s' ∧ D.ct σ' H'
  | .ret u => ∃ v σ' H', Inv X pins σ' H' s' ∧ RelV v u ∧ D.rt v H'

def PE (X : Cx) (e : Expr) (t : TE) : Prop :=
  ∀ (pins : List (Addr × Obj)) (s : Shared) (σ : St) (H : Hp) (Q : VK), Inv X pins σ H s → t σ H Q → wpAny (model X.prog X.w) X.A (eval e X.env) (EP X pins σ Q) X.xe s
def PT (X : Cx) (e : Expr) (t : TT) : Prop :=
  ∀ (pins : List (Addr × Obj)) (s : Shared) (σ : St) (H : Hp) (Q : Bool → Hp → Prop), Inv X pins σ H s → t σ H Q → wpAny (model X.prog X.w) X.A (isTrue e X.env (eval e X.env)) (TP X pins σ Q) X.xe s
/-- a test whatever its 'whole' is (and, or) -/
def PW (X : Cx) (e : Expr) (t : TT) : Prop :=
  ∀ (whole : Sem Value) (pins : List (Addr × Obj)) (s : Shared) (σ : St) (H : Hp) (Q : Bool → Hp → Prop), Inv X pins σ H s → t σ H Q → wpAny (model X.prog X.w) X.A (isTrue e X.env whole) (TP X pins σ Q) X.xe s
theorem PW.pt {X : Cx} {e : Expr} {t : TT} (h : PW X e t) : PT X e t := h _
/-- an argument list (no star), from the left -/
def PA (X : Cx) (es : List Expr) (t : TA) : Prop :=
  ∀ (pos : Pos) (pins : List (Addr × Obj)) (s : Shared) (σ : St) (H : Hp) (Q : List V → Hp → Prop), Inv X pins σ H s → t σ H Q → wpAny (model X.prog X.w) X.A (spliced (backTo pos (starEach es X.env))) (AP X pins σ Q) X.xe s
def PS (X : Cx) (st : Stmt) (t : TS) : Prop :=
  ∀ (pins : List (Addr × Obj)) (s : Shared) (σ : St) (H : Hp) (D : Ends), Inv X pins σ H s → t D σ H → wpAny (model X.prog X.w) X.A (exec st X.env) (SP X pins D) X.xe s
def PSs (X : Cx) (st : List Stmt) (t : TS) : Prop :=
  ∀ (pins : List (Addr × Obj)) (s : Shared) (σ : St) (H : Hp) (D : Ends), Inv X pins σ H s → t D σ H → wpAny (model X.prog X.w) X.A (execs st X.env) (SP X pins D) X.xe s
/-- weaken the end -/
theorem thn {α : Type} {t : Sem α} {Q Q' : α → Shared → Prop} {M : Model} {A : Around} {E : Value → Shared → Prop} {s : Shared} (h : wpAny M A t Q E s) (hQ : ∀ a s, Q a s → Q' a s) : wpAny M A t Q' E s := wpAny_mono h hQ fun _ _ x => x
end L2

namespace L2
open PySem PySem.Spec PyProof.Rows
section
variable {X : Cx}

/-- two expressions in a row -/
theorem bin {a b : Expr} {ta tb : TE} (ha : PE X a ta) (hb : PE X b tb) {pins : List (Addr × Obj)} {s : Shared} {σ : St} {H : Hp} {R : V → V → Hp → Prop} (I : Inv X pins σ H s) (h : ta σ H fun x H1 => tb σ H1 fun y H2 => R x y H2)
    {α : Type} {Q : α → Shared → Prop} {f : Value → Value → Sem α}
    (hf : ∀ v u s2 x y H2, Inv X pins σ H2 s2 → RelV x v → RelV y u → R x y H2 → wpAny (model X.prog X.w) X.A (f v u) Q X.xe s2) :
    wpAny (model X.prog X.w) X.A (eval a X.env) (fun v s₁ => wpAny (model X.prog X.w) X.A (eval b X.env) (fun u s₂ => wpAny (model X.prog X.w) X.A (f v u) Q X.xe s₂) X.xe s₁) X.xe s := by
  refine thn (ha pins s σ H _ I h) fun v s1 ⟨x, H1, I1, r1, q1⟩ => ?_
  refine thn (hb pins s1 σ H1 _ I1 q1) fun u s2 ⟨y, H2, I2, r2, q2⟩ => ?_
  exact hf v u s2 x y H2 I2 r1 r2 q2

/-! ### names and constants -/
def tVar (i : Nat) : TE := fun σ H Q => ∃ v, σ[i]? = some (some v) ∧ Q v H
def tC (v : V) : TE := fun _ H Q => Q v H
theorem pe_var {i : Nat} {x : Str} {pos : Pos} (hN : X.N[i]? = some x) (hv : Vis X.env.scope x) (hd : (x == ("__debug__" : Str)) = false := by decide) (hcd : (x == ("__classdict__" : Str)) = false := by decide) : PE X (.Name x pos) (tVar i) := by
  intro pins s σ H Q I h
  obtain ⟨v, e, h⟩ := h
  obtain ⟨m, hn, hl⟩ := I.loc
  obtain ⟨u, r, l⟩ := hl i x v hN e hv
  have fin : EP X pins σ Q u s := ⟨v, H, I, r, h⟩
  rcases l with ⟨hk, hm⟩ | ⟨hk, c, hc, hcell⟩
  · exact wpAny_Name (wpAny_loadName_local I.ok.kind hk hn hm fin) hd
  · rcases hk with hk | hk
    · exact wpAny_Name (wpAny_loadName_cell I.ok.kind hk hc hcell fin) hd
    · exact wpAny_Name (wpAny_loadName_free I.ok.kind hk hc hcell fin hcd) hd
theorem pe_int {i j pos} : PE X (.Constant (.int i) j pos) (tC (.int i)) := fun _ _ _ H _ I h => wpAny_Constant_int ⟨.int i, H, I.tok _, ⟨_, rfl⟩, h⟩
theorem pe_bl {b j pos} : PE X (.Constant (.bool b) j pos) (tC (.bl b)) := fun _ _ _ H _ I h => Constant_bool ⟨.bl b, H, I, rfl, h⟩
theorem pe_non {j pos} : PE X (.Constant .none j pos) (tC .non) := fun _ _ _ H _ I h => Constant_none ⟨.non, H, I, rfl, h⟩
theorem pe_str {x j pos} : PE X (.Constant (.str x) j pos) (tC (.str x)) := fun _ _ _ H _ I h => Calls.Constant_str ⟨.str x, H, I.tok _, ⟨_, rfl⟩, h⟩

/-- a global name of the def -/
def Gl (X : Cx) (x : Str) : Prop := X.env.kindOf x = some .globalImplicit
theorem ld_glob {E : Value → Shared → Prop} {pins : List (Addr × Obj)} {s : Shared} {σ : St} {H : Hp} {x : Str} {u : Value} {pos : Pos} {Q : Value → Shared → Prop} (I : Inv X pins σ H s) (hg : Gl X x) (hm : X.mg x = some u) (h : Q u s)
    (hd : (x == ("__debug__" : Str)) = false := by decide) : wpAny (model X.prog X.w) X.A (eval (.Name x pos) X.env) Q E s :=
  Calls.Name_function_global I.ok.kind hg (Calls.loadGlobal_global (by rw [I.ok.glob]; exact I.mod.glob.keeps I.bk) hm h) hd
theorem ld_blt {E : Value → Shared → Prop} {pins : List (Addr × Obj)} {s : Shared} {σ : St} {H : Hp} {x : Str} {u : Value} {pos : Pos} {Q : Value → Shared → Prop} (I : Inv X pins σ H s) (hg : Gl X x) (hm : X.mg x = none) (hv : bootBuiltins x = some u) (h : Q u s)
    (hn : x ≠ "__name__" := by decide) (hd : (x == ("__debug__" : Str)) = false := by decide) : wpAny (model X.prog X.w) X.A (eval (.Name x pos) X.env) Q E s := by
  obtain ⟨mb, h1, h2⟩ := I.mod.blt
  exact Calls.Name_function_global I.ok.kind hg (Calls.loadGlobal_builtin (by rw [I.ok.glob]; exact I.mod.glob.keeps I.bk) hm (by rw [I.ok.blt]; exact h1.keeps I.bk) ((h2 x hn).trans hv) h) hd
/-- a module's constant, a class, a function, as a value -/
theorem pe_glob {x : Str} {v : V} {u : Value} {pos : Pos} (hg : Gl X x) (hm : X.mg x = some u) (r : RelV v u) (hd : (x == ("__debug__" : Str)) = false := by decide) : PE X (.Name x pos) (tC v) :=
  fun _ _ _ H _ I h => ld_glob I hg hm ⟨v, H, I, r, h⟩ hd
theorem pe_bltn {x : Str} {v : V} {u : Value} {pos : Pos} (hg : Gl X x) (hm : X.mg x = none) (hv : bootBuiltins x = some u) (r : RelV v u) (hn : x ≠ "__name__" := by decide) (hd : (x == ("__debug__" : Str)) = false := by decide) : PE X (.Name x pos) (tC v) :=
  fun _ _ _ H _ I h => ld_blt I hg hm hv ⟨v, H, I, r, h⟩ hn hd

/-! ### arithmetic -/
/-- two ints -/
def t2I (ta tb : TE) (k : Int → Int → Hp → Prop) : St → Hp → Prop := fun σ H => ta σ H fun x H1 => tb σ H1 fun y H2 => ∃ i j, x = .int i ∧ y = .int j ∧ k i j H2
def tAdd (ta tb : TE) : TE := fun σ H Q => t2I ta tb (fun i j H2 => Q (.int (i + j)) H2) σ H
def tSub (ta tb : TE) : TE := fun σ H Q => t2I ta tb (fun i j H2 => Q (.int (i - j)) H2) σ H
/-- the left factor below 2^64 -/
def tMul (ta tb : TE) : TE := fun σ H Q => t2I ta tb (fun i j H2 => (-(2 ^ 64) < i ∧ i < 2 ^ 64) ∧ Q (.int (i * j)) H2) σ H
variable {a b : Expr} {ta tb : TE} {pos : Pos}
theorem pe_add (ha : PE X a ta) (hb : PE X b tb) : PE X (.BinOp a .Add b pos) (tAdd ta tb) := by
  intro pins s σ H Q I h
  refine wpAny_BinOp (bin ha hb I h fun v u s2 x y H2 I2 rx ry q => ?_)
  obtain ⟨i, j, rfl, rfl, q⟩ := q
  obtain ⟨t, rfl⟩ := rx
  obtain ⟨t', rfl⟩ := ry
  exact add_int ⟨.int _, H2, I2.tok _, ⟨_, rfl⟩, q⟩
theorem pe_sub (ha : PE X a ta) (hb : PE X b tb) : PE X (.BinOp a .Sub b pos) (tSub ta tb) := by
  intro pins s σ H Q I h
  refine wpAny_BinOp (bin ha hb I h fun v u s2 x y H2 I2 rx ry q => ?_)
  obtain ⟨i, j, rfl, rfl, q⟩ := q
  obtain ⟨t, rfl⟩ := rx
  obtain ⟨t', rfl⟩ := ry
  exact sub_int ⟨.int _, H2, I2.tok _, ⟨_, rfl⟩, q⟩
theorem pe_mul (ha : PE X a ta) (hb : PE X b tb) : PE X (.BinOp a .Mult b pos) (tMul ta tb) := by
  intro pins s σ H Q I h
  refine wpAny_BinOp (bin ha hb I h fun v u s2 x y H2 I2 rx ry q => ?_)
  obtain ⟨i, j, rfl, rfl, ⟨q1, q2⟩, q⟩ := q
  obtain ⟨t, rfl⟩ := rx
  obtain ⟨t', rfl⟩ := ry
  exact mul_int ⟨.int _, H2, I2.tok _, ⟨_, rfl⟩, q⟩ (.of_left (intBits_le_64 q1 q2))

/-! ### comparisons -/
def PC (X : Cx) (op : CmpOp) (a b : Expr) (t : TE) : Prop :=
  ∀ (pins : List (Addr × Obj)) (s : Shared) (σ : St) (H : Hp) (Q : VK), Inv X pins σ H s → t σ H Q →
    wpAny (model X.prog X.w) X.A (eval a X.env) (fun v s₁ => wpAny (model X.prog X.w) X.A (eval b X.env) (fun u s₂ => wpAny (model X.prog X.w) X.A (compareOp op v u) (EP X pins σ Q) X.xe s₂) X.xe s₁) X.xe s
theorem nobehind (b : Expr) {op : CmpOp} (h : op ≠ .In) (h2 : op ≠ .NotIn) : behindInMarks op b = false := by
  have e1 : (op == CmpOp.In) = false := by cases op <;> first | rfl | exact absurd rfl h
  have e2 : (op == CmpOp.NotIn) = false := by cases op <;> first | rfl | exact absurd rfl h2
  cases b <;> simp [behindInMarks, e1, e2]
def tCmp (p : Int → Int → Bool) (ta tb : TE) : TE := fun σ H Q => t2I ta tb (fun i j H2 => Q (.bl (p i j)) H2) σ H
abbrev tLt : TE → TE → TE := tCmp fun i j => decide (i < j)
abbrev tLe : TE → TE → TE := tCmp fun i j => decide (i ≤ j)
abbrev tGt : TE → TE → TE := tCmp fun i j => decide (j < i)
abbrev tGe : TE → TE → TE := tCmp fun i j => decide (j ≤ i)
abbrev tEqI : TE → TE → TE := tCmp fun i j => decide (i = j)
abbrev tNeI : TE → TE → TE := tCmp fun i j => !decide (i = j)
/-- a comparison of two ints, by its rule -/
theorem pc_int {op : CmpOp} {p : Int → Int → Bool} (ha : PE X a ta) (hb : PE X b tb)
    (rule : ∀ (i j : Int) (t u : Tok) (Q : Value → Shared → Prop) (s : Shared), Q (.bool (p i j)) s → wpAny (model X.prog X.w) X.A (compareOp op (.int i t) (.int j u)) Q X.xe s) : PC X op a b (tCmp p ta tb) := by
  intro pins s σ H Q I h
  refine bin ha hb I h fun v u s2 x y H2 I2 rx ry q => ?_
  obtain ⟨i, j, rfl, rfl, q⟩ := q
  obtain ⟨t, rfl⟩ := rx
  obtain ⟨t', rfl⟩ := ry
  exact rule i j t t' _ s2 ⟨.bl _, H2, I2, rfl, q⟩
theorem pc_lt (ha : PE X a ta) (hb : PE X b tb) : PC X .Lt a b (tLt ta tb) := pc_int ha hb fun _ _ _ _ _ _ h => lt_int h
theorem pc_le (ha : PE X a ta) (hb : PE X b tb) : PC X .LtE a b (tLe ta tb) := pc_int ha hb fun _ _ _ _ _ _ h => le_int h
theorem pc_gt (ha : PE X a ta) (hb : PE X b tb) : PC X .Gt a b (tGt ta tb) := pc_int ha hb fun _ _ _ _ _ _ h => gt_int h
theorem pc_ge (ha : PE X a ta) (hb : PE X b tb) : PC X .GtE a b (tGe ta tb) := pc_int ha hb fun _ _ _ _ _ _ h => ge_int h
theorem pc_eqI (ha : PE X a ta) (hb : PE X b tb) : PC X .Eq a b (tEqI ta tb) := pc_int ha hb fun _ _ _ _ _ _ h => eq_int (by rw [Bool.beq_eq_decide_eq]; exact h)
theorem pc_neI (ha : PE X a ta) (hb : PE X b tb) : PC X .NotEq a b (tNeI ta tb) := pc_int ha hb fun _ _ _ _ _ _ h => ne_int (by rw [bne, Bool.beq_eq_decide_eq]; exact h)
/-- is None -/
def tIsN (ta : TE) : TE := fun σ H Q => ta σ H fun x H1 => Q (.bl (decide (x = .non))) H1
def tNotN (ta : TE) : TE := fun σ H Q => ta σ H fun x H1 => Q (.bl (!decide (x = .non))) H1
theorem RelV.none_iff {x : V} {v : Value} (r : RelV x v) : (v == Value.none) = decide (x = .non) := by
  cases x with
  | non => cases r; rfl
  | bl _ => cases r; rfl
  | int _ => obtain ⟨t, rfl⟩ := r; rfl
  | str _ => obtain ⟨t, rfl⟩ := r; rfl
  | byt _ => obtain ⟨t, rfl⟩ := r; rfl
  | flt _ => obtain ⟨t, rfl⟩ := r; rfl
  | ref _ => cases r; rfl
  | ty _ => cases r; rfl
theorem pc_isN {j pos'} (ha : PE X a ta) : PC X .Is a (.Constant .none j pos') (tIsN ta) := by
  intro pins s σ H Q I h
  refine thn (ha pins s σ H _ I h) fun v s1 ⟨x, H1, I1, r1, q1⟩ => ?_
  exact Constant_none (is_none_gen ⟨.bl _, H1, I1, by rw [r1.none_iff]; rfl, q1⟩)
theorem pc_notN {j pos'} (ha : PE X a ta) : PC X .IsNot a (.Constant .none j pos') (tNotN ta) := by
  intro pins s σ H Q I h
  refine thn (ha pins s σ H _ I h) fun v s1 ⟨x, H1, I1, r1, q1⟩ => ?_
  exact Constant_none (isnot_none_gen ⟨.bl _, H1, I1, by rw [r1.none_iff]; rfl, q1⟩)
/-- a comparison as a value, as a test -/
def tB (t : TE) : TT := fun σ H Q => t σ H fun x H1 => ∃ c, x = .bl c ∧ Q c H1
theorem pe_cmp {op : CmpOp} {t : TE} (h : PC X op a b t) (h1 : behindInMarks op b = false := by first | exact nobehind _ (by decide) (by decide) | rfl) : PE X (.Compare a [op] [b] pos) t := fun pins s σ H Q I hw => wpAny_Compare1 (h pins s σ H Q I hw) h1
theorem pt_cmp {op : CmpOp} {t : TE} (h : PC X op a b t) (h1 : behindInMarks op b = false := by first | exact nobehind _ (by decide) (by decide) | rfl) : PT X (.Compare a [op] [b] pos) (tB t) := by
  intro pins s σ H Q I hw
  refine wpAny_isTrue_Compare1 (thn (h pins s σ H _ I hw) fun v s1 h1 => thn h1 fun u s2 h2 => thn h2 fun c s3 ⟨x, H1, I1, r1, q1⟩ => ?_) h1
  obtain ⟨d, rfl, q⟩ := q1
  cases r1
  exact wpAny_truthy_bool ⟨H1, I1, q⟩
/-- an expression whose value is a bool, as a test -/
theorem pt_val {e : Expr} {t : TE} (h : PE X e t) (he : ∀ whole, isTrue e X.env whole = (do let v ← whole; standAt e.pos; holding [v] (truthy v)) := by intro _; rfl) : PT X e (tB t) := by
  intro pins s σ H Q I hw
  refine isTrue_plain (thn (h pins s σ H _ I hw) fun v s1 ⟨x, H1, I1, r1, q1⟩ => ?_) (he _)
  obtain ⟨d, rfl, q⟩ := q1
  cases r1
  exact wpAny_truthy_bool ⟨H1, I1, q⟩

/-! ### and, or, not -/
variable {tA tB' : TT} {rest : List Expr}
def tAnd (t u : TT) : TT := fun σ H Q => t σ H fun c H1 => if c = true then u σ H1 Q else Q false H1
def tOr (t u : TT) : TT := fun σ H Q => t σ H fun c H1 => if c = true then Q true H1 else u σ H1 Q
def tNot (t : TT) : TT := fun σ H Q => t σ H fun c H1 => Q (!c) H1
theorem pw_and1 (ha : PT X a tA) : PW X (.BoolOp .And [a] pos) tA := by
  intro wh pins s σ H Q I h
  refine isTrue_and (thn (ha pins s σ H Q I h) fun c s1 e => ?_)
  cases c with
  | true => exact isTrue_and_nil e
  | false => exact e
theorem pw_or1 (ha : PT X a tA) : PW X (.BoolOp .Or [a] pos) tA := by
  intro wh pins s σ H Q I h
  refine isTrue_or (thn (ha pins s σ H Q I h) fun c s1 e => ?_)
  cases c with
  | false => exact isTrue_or_nil e
  | true => exact e
theorem pw_and (ha : PT X a tA) (hb : PW X (.BoolOp .And (b :: rest) pos) tB') : PW X (.BoolOp .And (a :: b :: rest) pos) (tAnd tA tB') := by
  intro wh pins s σ H Q I h
  refine isTrue_and (thn (ha pins s σ H _ I h) fun c s1 ⟨H1, I1, q1⟩ => ?_)
  cases c with
  | true => exact hb wh pins s1 σ H1 Q I1 q1
  | false => exact ⟨H1, I1, q1⟩
theorem pw_or (ha : PT X a tA) (hb : PW X (.BoolOp .Or (b :: rest) pos) tB') : PW X (.BoolOp .Or (a :: b :: rest) pos) (tOr tA tB') := by
  intro wh pins s σ H Q I h
  refine isTrue_or (thn (ha pins s σ H _ I h) fun c s1 ⟨H1, I1, q1⟩ => ?_)
  cases c with
  | true => exact ⟨H1, I1, q1⟩
  | false => exact hb wh pins s1 σ H1 Q I1 q1
theorem pt_not (ha : PT X a tA) : PT X (.UnaryOp .Not a pos) (tNot tA) := by
  intro pins s σ H Q I h
  exact isTrue_not (ha pins s σ H (fun c H1 => Q (!c) H1) I h)
/-- .. as values (bools) -/
def tAndV (ta tb : TE) : TE := fun σ H Q => ta σ H fun x H1 => ∃ c, x = .bl c ∧ if c = true then tb σ H1 Q else Q (.bl false) H1
def tOrV (ta tb : TE) : TE := fun σ H Q => ta σ H fun x H1 => ∃ c, x = .bl c ∧ if c = true then Q (.bl true) H1 else tb σ H1 Q
def tNotV (ta : TE) : TE := fun σ H Q => ta σ H fun x H1 => ∃ c, x = .bl c ∧ Q (.bl (!c)) H1
theorem pe_one {op} {t : TE} (h : PE X a t) : PE X (.BoolOp op [a] pos) t := fun pins s σ H Q I hw => BoolOp_one (h pins s σ H Q I hw)
theorem pe_and (ha : PE X a ta) (hb : PE X (.BoolOp .And (b :: rest) pos) tb) : PE X (.BoolOp .And (a :: b :: rest) pos) (tAndV ta tb) := by
  intro pins s σ H Q I h
  refine BoolOp_and (thn (ha pins s σ H _ I h) fun v s1 ⟨x, H1, I1, r1, q1⟩ => ?_)
  obtain ⟨c, rfl, q1⟩ := q1
  cases r1
  refine wpAny_truthy_bool ?_
  cases c with
  | true => exact hb pins s1 σ H1 Q I1 q1
  | false => exact ⟨.bl false, H1, I1, rfl, q1⟩
theorem pe_or (ha : PE X a ta) (hb : PE X (.BoolOp .Or (b :: rest) pos) tb) : PE X (.BoolOp .Or (a :: b :: rest) pos) (tOrV ta tb) := by
  intro pins s σ H Q I h
  refine BoolOp_or (thn (ha pins s σ H _ I h) fun v s1 ⟨x, H1, I1, r1, q1⟩ => ?_)
  obtain ⟨c, rfl, q1⟩ := q1
  cases r1
  refine wpAny_truthy_bool ?_
  cases c with
  | false => exact hb pins s1 σ H1 Q I1 q1
  | true => exact ⟨.bl true, H1, I1, rfl, q1⟩
theorem pe_not (ha : PE X a ta) : PE X (.UnaryOp .Not a pos) (tNotV ta) := by
  intro pins s σ H Q I h
  refine UnaryOp_ (thn (ha pins s σ H _ I h) fun v s1 ⟨x, H1, I1, r1, q1⟩ => ?_)
  obtain ⟨c, rfl, q1⟩ := q1
  cases r1
  exact not_of (wpAny_truthy_bool ⟨.bl (!c), H1, I1, rfl, q1⟩)
/-- a if t else b -/
def tIf (t : TT) (ta tb : TE) : TE := fun σ H Q => t σ H fun c H1 => if c = true then ta σ H1 Q else tb σ H1 Q
theorem pe_ifExp {c : Expr} (hc : PT X c tA) (ha : PE X a ta) (hb : PE X b tb) : PE X (.IfExp c a b pos) (tIf tA ta tb) := by
  intro pins s σ H Q I h
  refine wpAny_IfExp (thn (hc pins s σ H _ I h) fun d s1 ⟨H1, I1, q1⟩ => ?_)
  cases d with
  | true => exact ha pins s1 σ H1 Q I1 q1
  | false => exact hb pins s1 σ H1 Q I1 q1
end
end L2

namespace L2
open PySem PySem.Spec PyProof.Rows

/-! ### a list, a tuple that is read: tracked, frozen, or an object of the module -/
def SqL (K : PySem.W.Frag) (H : Hp) (a : Addr) (xs : List V) : Prop :=
  Rd H a (.lst xs) ∨
    ∃ (o : Obj) (its : Array Value) (n : Nat), K.lookup a = some o ∧ o.cls = .type "list" ∧ o.dict = none ∧ o.data = .seq its n ∧ its.size ≤ sizeLine ∧ Vals xs its.toList
def SqT (K : PySem.W.Frag) (H : Hp) (a : Addr) (xs : List V) : Prop :=
  Rd H a (.tup xs) ∨
    ∃ (o : Obj) (its : Array Value) (n : Nat), K.lookup a = some o ∧ o.cls = .type "tuple" ∧ o.data = .seq its n ∧ its.size ≤ sizeLine ∧ Vals xs its.toList
def absV : Value → Option V
  | .none => some .non
  | .bool b => some (.bl b)
  | .int i _ => some (.int i)
  | .str x _ => some (.str x)
  | .bytes b _ => some (.byt b)
  | .float b _ => some (.flt b)
  | .ref a => some (.ref a)
  | .type n => some (.ty n)
  | _ => none
theorem RelV.abs {x : V} {u : Value} (r : RelV x u) : absV u = some x := by
  cases x with
  | non => cases r; rfl
  | bl _ => cases r; rfl
  | int _ => obtain ⟨t, rfl⟩ := r; rfl
  | str _ => obtain ⟨t, rfl⟩ := r; rfl
  | byt _ => obtain ⟨t, rfl⟩ := r; rfl
  | flt _ => obtain ⟨t, rfl⟩ := r; rfl
  | ref _ => cases r; rfl
  | ty _ => cases r; rfl
theorem RelV.inj {x y : V} {u : Value} (r : RelV x u) (q : RelV y u) : x = y := Option.some.inj (r.abs.symm.trans q.abs)
theorem Vals.inj : ∀ {xs ys : List V} {us : List Value}, Vals xs us → Vals ys us → xs = ys
  | _, _, _, .nil, .nil => rfl
  | _, _, _, .cons r t, .cons r' t' => by rw [r.inj r', Vals.inj t t']
section
variable {X : Cx} {pins : List (Addr × Obj)} {σ : St} {H : Hp} {s : Shared} {a : Addr} {xs ys : List V}
theorem SqL.of {K : PySem.W.Frag} (h : H a = some (.lst xs)) : SqL K H a xs := .inl (.inl h)
theorem SqT.of {K : PySem.W.Frag} (h : H a = some (.tup xs)) : SqT K H a xs := .inl (.inl h)
theorem Inv.list (I : Inv X pins σ H s) (h : SqL X.K H a xs) : ∃ its : List Value, Vals xs its ∧ PlainL s.heap a its.toArray ∧ xs.length ≤ sizeLine := by
  rcases h with h | ⟨o, its, n, hk, hc, hd, hs, hz, r⟩
  · obtain ⟨z, its, n, r, e⟩ := h.ok I.hok
    exact ⟨its, r, ⟨_, n, e, rfl, rfl, rfl⟩, z⟩
  · refine ⟨its.toList, r, ⟨o, n, I.kIn a o hk, hc, hd, by simpa using hs⟩, ?_⟩
    have e := r.length
    simp only [Array.length_toList] at e
    omega
theorem Inv.tuple (I : Inv X pins σ H s) (h : SqT X.K H a xs) : ∃ its : List Value, Vals xs its ∧ IsTup s.heap a its.toArray ∧ xs.length ≤ sizeLine := by
  rcases h with h | ⟨o, its, n, hk, hc, hs, hz, r⟩
  · obtain ⟨z, its, r, p⟩ := h.ok I.hok
    exact ⟨its, r, p, z⟩
  · refine ⟨its.toList, r, ⟨o, I.kIn a o hk, hc, n, by simpa using hs⟩, ?_⟩
    have e := r.length
    simp only [Array.length_toList] at e
    omega
theorem Inv.list_inj (I : Inv X pins σ H s) (h : SqL X.K H a xs) (h' : SqL X.K H a ys) : xs = ys := by
  obtain ⟨its, r, ⟨o, n, e, _, _, d⟩, _⟩ := I.list h
  obtain ⟨its', r', ⟨o', n', e', _, _, d'⟩, _⟩ := I.list h'
  rw [e] at e'; cases e'
  rw [d] at d'
  injection d' with d1 _
  have : its = its' := by simpa using congrArg Array.toList d1
  subst this
  exact r.inj r'
theorem Inv.tuple_inj (I : Inv X pins σ H s) (h : SqT X.K H a xs) (h' : SqT X.K H a ys) : xs = ys := by
  obtain ⟨its, r, ⟨o, e, _, n, d⟩, _⟩ := I.tuple h
  obtain ⟨its', r', ⟨o', e', _, n', d'⟩, _⟩ := I.tuple h'
  rw [e] at e'; cases e'
  rw [d] at d'
  injection d' with d1 _
  have : its = its' := by simpa using congrArg Array.toList d1
  subst this
  exact r.inj r'
end

/-! ### another wish about exceptions -/
abbrev Cx.wish (X : Cx) (E : Value → Shared → Prop) : Cx := { X with xe := E }
/-- no exception leaves -/
abbrev Cx.nox (X : Cx) : Cx := X.wish fun _ _ => False
theorem Cx.Ok.wish {X : Cx} (ok : X.Ok) (E : Value → Shared → Prop) : (X.wish E).Ok :=
  ⟨ok.mod, ok.kind, ok.glob, ok.blt, ok.above, ok.inj, ok.has, ok.cab, ok.hd, ok.frames, ok.stk, ok.exf, ok.bs, ok.bsz, ok.noex, ok.exfs, ok.funs, ok.frf⟩
theorem Cx.Ok.unwish {X : Cx} {E : Value → Shared → Prop} (ok : (X.wish E).Ok) : X.Ok :=
  ⟨ok.mod, ok.kind, ok.glob, ok.blt, ok.above, ok.inj, ok.has, ok.cab, ok.hd, ok.frames, ok.stk, ok.exf, ok.bs, ok.bsz, ok.noex, ok.exfs, ok.funs, ok.frf⟩
section
variable {X : Cx} {pins : List (Addr × Obj)} {σ : St} {H : Hp} {s : Shared} {E : Value → Shared → Prop}
theorem Inv.wish (I : Inv X pins σ H s) (E : Value → Shared → Prop) : Inv (X.wish E) pins σ H s := ⟨I.ok.wish E, I.os, I.bare, I.base, I.loc, I.cell, I.free, I.freeC, I.pin, I.hok, I.len⟩
theorem Inv.unwish (I : Inv (X.wish E) pins σ H s) : Inv X pins σ H s := ⟨I.ok.unwish, I.os, I.bare, I.base, I.loc, I.cell, I.free, I.freeC, I.pin, I.hok, I.len⟩
theorem SP.unwish {D : Ends} {f : Flow} {s' : Shared} (h : SP (X.wish E) pins D f s') : SP X pins D f s' := by
  cases f with
  | next => obtain ⟨σ', H', I, q⟩ := h; exact ⟨σ', H', I.unwish, q⟩
  | brk => obtain ⟨σ', H', I, q⟩ := h; exact ⟨σ', H', I.unwish, q⟩
  | cont => obtain ⟨σ', H', I, q⟩ := h; exact ⟨σ', H', I.unwish, q⟩
  | ret u => obtain ⟨v, σ', H', I, r, q⟩ := h; exact ⟨v, σ', H', I.unwish, r, q⟩
theorem PE.nox {e : Expr} {t : TE} (h : PE X.nox e t) : PE X e t := fun pins s σ H Q I hw =>
  wpAny_mono (h pins s σ H Q (I.wish _) hw) (fun _ _ ⟨v, H', I', r, q⟩ => ⟨v, H', I'.unwish, r, q⟩) fun _ _ z => False.elim z
theorem PT.nox {e : Expr} {t : TT} (h : PT X.nox e t) : PT X e t := fun pins s σ H Q I hw =>
  wpAny_mono (h pins s σ H Q (I.wish _) hw) (fun _ _ ⟨H', I', q⟩ => ⟨H', I'.unwish, q⟩) fun _ _ z => False.elim z
theorem PSs.nox {st : List Stmt} {t : TS} (h : PSs X.nox st t) : PSs X st t := fun pins s σ H D I hw =>
  wpAny_mono (h pins s σ H D (I.wish _) hw) (fun _ _ q => q.unwish) fun _ _ z => False.elim z
end

/-! ### blocks and small statements -/
section
variable {X : Cx} {st : Stmt} {rest : List Stmt} {t u : TS} {e : Expr} {te : TE} {pos : Pos}
def tNext : TS := fun D σ H => D.nx σ H
def tSeq (t u : TS) : TS := fun D σ H => t { D with nx := u D } σ H
theorem pss_nil : PSs X [] tNext := fun _ _ σ H _ I h => wpAny_execs_nil ⟨σ, H, I, h⟩
theorem pss_cons (h1 : PS X st t) (h2 : PSs X rest u) : PSs X (st :: rest) (tSeq t u) := by
  intro pins s σ H D I h
  refine wpAny_execs_cons (thn (h1 pins s σ H { D with nx := u D } I h) fun f s1 q => ?_)
  cases f with
  | next =>
    obtain ⟨σ', H', I', q⟩ := q
    exact h2 pins s1 σ' H' D I' q
  | ret v => exact q
  | brk => exact q
  | cont => exact q
theorem pss_one (h1 : PS X st t) : PSs X [st] t := by
  intro pins s σ H D I h
  refine wpAny_execs_cons (thn (h1 pins s σ H D I h) fun f s1 q => ?_)
  cases f with
  | next => exact wpAny_execs_nil q
  | ret v => exact q
  | brk => exact q
  | cont => exact q
def tBreak : TS := fun D σ H => D.bk σ H
def tCont : TS := fun D σ H => D.ct σ H
theorem ps_pass : PS X (.Pass pos) tNext := fun _ _ σ H _ I h => wpAny_Pass ⟨σ, H, I, h⟩
theorem ps_break : PS X (.Break pos) tBreak := fun _ _ σ H _ I h => wpAny_Break ⟨σ, H, I, h⟩
theorem ps_continue : PS X (.Continue pos) tCont := fun _ _ σ H _ I h => wpAny_Continue ⟨σ, H, I, h⟩
/-- in a def's body nothing is shown -/
theorem Inv.quiet {pins : List (Addr × Obj)} {σ : St} {H : Hp} {s : Shared} (I : Inv X pins σ H s) : interactive X.env = false := by simp [interactive, I.ok.kind]
/-- a docstring -/
theorem ps_doc {x j pos pos'} : PS X (.Expr (.Constant (.str x) j pos) pos') tNext := fun _ s σ H _ I h => wpAny_Expr (Calls.Constant_str (show SP X _ _ .next { s with toks := s.toks + 1 } from ⟨σ, H, I.tok _, h⟩)) I.quiet
/-- an expression whose value is dropped -/
def tDrop (te : TE) : TS := fun D σ H => te σ H fun _ H1 => D.nx σ H1
theorem ps_expr (he : PE X e te) (hs : swapsWith e none pos.line X.env = pure false := by rfl) : PS X (.Expr e pos) (tDrop te) := by
  intro pins s σ H D I h
  exact wpAny_Expr_any (thn (he pins s σ H _ I h) fun v s1 ⟨x, H1, I1, r1, q1⟩ => ⟨σ, H1, I1, q1⟩) I.quiet hs
def tRet (te : TE) : TS := fun D σ H => te σ H D.rt
theorem ps_ret (he : PE X e te) : PS X (.Return (some e) pos) (tRet te) := by
  intro pins s σ H D I h
  exact wpAny_Return_some (thn (he pins s σ H _ I h) fun v s1 ⟨x, H1, I1, r1, q1⟩ => ⟨x, σ, H1, I1, r1, q1⟩)
def tRetN : TS := fun D _ H => D.rt .non H
theorem ps_retN : PS X (.Return none pos) tRetN := fun _ _ σ H _ I h => wpAny_Return_none ⟨.non, σ, H, I, rfl, h⟩
def tIfS (c : TT) (t u : TS) : TS := fun D σ H => c σ H fun b H1 => if b = true then t D σ H1 else u D σ H1
theorem ps_if {c : Expr} {a b : List Stmt} {tc : TT} (hc : PT X c tc) (ha : PSs X a t) (hb : PSs X b u) : PS X (.If c a b pos) (tIfS tc t u) := by
  intro pins s σ H D I h
  refine wpAny_If (thn (hc pins s σ H _ I h) fun d s1 ⟨H1, I1, q1⟩ => ?_)
  cases d with
  | true => exact ha pins s1 σ H1 D I1 q1
  | false => exact hb pins s1 σ H1 D I1 q1
/-- code that the proof never comes to -/
def tNever : TS := fun _ _ _ => False
theorem ps_never : PS X st tNever := fun _ _ _ _ _ _ h => h.elim
theorem pss_never {sts : List Stmt} : PSs X sts tNever := fun _ _ _ _ _ _ h => h.elim
end

/-! ### targets -/
abbrev TG := V → St → Hp → (St → Hp → Prop) → Prop
abbrev TGs := List V → St → Hp → (St → Hp → Prop) → Prop
def PG (X : Cx) (target : Expr) (t : TG) : Prop :=
  ∀ (pins : List (Addr × Obj)) (s : Shared) (σ : St) (H : Hp) (v : V) (u : Value) (Q : St → Hp → Prop), Inv X pins σ H s → RelV v u → t v σ H Q →
    wpAny (model X.prog X.w) X.A (assign target X.env u) (fun _ s' => ∃ σ' H', Inv X pins σ' H' s' ∧ Q σ' H') X.xe s
/-- several targets, one after another -/
def PGs (X : Cx) (ts : List Expr) (t : TGs) : Prop :=
  ∀ (pins : List (Addr × Obj)) (s : Shared) (σ : St) (H : Hp) (vs : List V) (us : List Value) (Q : St → Hp → Prop), Inv X pins σ H s → Vals vs us → t vs σ H Q →
    wpAny (model X.prog X.w) X.A (assignInOrder ((assignEach ts X.env).map (·.2)) us) (fun _ s' => ∃ σ' H', Inv X pins σ' H' s' ∧ Q σ' H') X.xe s
/-- o[i] = v, by values -/
abbrev TSet := V → V → V → Hp → (Hp → Prop) → Prop
def PSet (X : Cx) (t : TSet) : Prop :=
  ∀ (pins : List (Addr × Obj)) (s : Shared) (σ : St) (H : Hp) (o i v : V) (ov iv u : Value) (Q : Hp → Prop), Inv X pins σ H s → RelV o ov → RelV i iv → RelV v u → t o i v H Q →
    wpAny (model X.prog X.w) X.A (setItem ov iv u) (fun _ s' => ∃ H', Inv X pins σ H' s' ∧ Q H') X.xe s
/-- a op= b, by values -/
abbrev TIp := V → V → Hp → VK → Prop
def PIp (X : Cx) (op : Operator) (t : TIp) : Prop :=
  ∀ (pins : List (Addr × Obj)) (s : Shared) (σ : St) (H : Hp) (x y : V) (v u : Value) (Q : VK), Inv X pins σ H s → RelV x v → RelV y u → t x y H Q →
    wpAny (model X.prog X.w) X.A (inplaceOp op v u) (EP X pins σ Q) X.xe s
section
variable {X : Cx} {pos : Pos}
def gName (i : Nat) : TG := fun v σ H Q => Q (σ.set i (some v)) H
theorem pg_name {i : Nat} {x : Str} (hN : X.N.Nodup) (hi : X.N[i]? = some x) (hx : Loc X.env.scope x) (hf : X.fn x = true ∨ X.env.scope.names.lookup x = some .local := by first | exact .inl rfl | exact .inr rfl | assumption) : PG X (.Name x pos) (gName i) := by
  intro pins s σ H v u Q I r h
  exact wpAny_assign_Name (store_ok I hN hi hx r (fun s' I' => ⟨_, H, I', h⟩) hf)
def gNil : TGs := fun vs σ H Q => vs = [] ∧ Q σ H
def gCons (t : TG) (u : TGs) : TGs := fun vs σ H Q => ∃ v r, vs = v :: r ∧ t v σ H fun σ' H' => u r σ' H' Q
theorem pgs_nil : PGs X [] gNil := by
  intro pins s σ H vs us Q I r h
  obtain ⟨e, h⟩ := h
  subst e
  cases r
  exact assignInOrder_nil ⟨σ, H, I, h⟩
theorem pgs_cons {e : Expr} {es : List Expr} {t : TG} {u : TGs} (h1 : PG X e t) (h2 : PGs X es u)
    (hs : (assignEach (e :: es) X.env).map (·.2) = assign e X.env :: (assignEach es X.env).map (·.2) := by rfl) : PGs X (e :: es) (gCons t u) := by
  intro pins s σ H vs us Q I r h
  obtain ⟨v, vr, e1, h⟩ := h
  subst e1
  cases r with
  | cons r rr =>
    rw [hs]
    refine assignInOrder_cons (thn (h1 pins s σ H _ _ _ I r h) fun _ s1 ⟨σ1, H1, I1, q1⟩ => ?_)
    exact h2 pins s1 σ1 H1 _ _ Q I1 rr q1
/-- (a, b, ..) = a tuple of that length -/
def gTup (K : PySem.W.Frag) (n : Nat) (t : TGs) : TG := fun v σ H Q => ∃ a xs, v = .ref a ∧ SqT K H a xs ∧ xs.length = n ∧ t xs σ H Q
theorem pg_tup {es : List Expr} {k : Nat} {t : TGs} {n : Nat} (hc : X.calm = true) (h : PGs X es t)
    (hn : (assignEach es X.env).length = n := by rfl) (hst : (assignEach es X.env).findIdx? (·.1) = none := by rfl) : PG X (.Tuple es k pos) (gTup X.K n t) := by
  intro pins s σ H v u Q I r hw
  obtain ⟨a, xs, e1, hq, hl, hw⟩ := hw
  subst e1
  cases r
  obtain ⟨its, rv, ht, hz⟩ := I.tuple hq
  refine assign_Tuple_tuple (I.ok.hd hc) ht (by simp [hn, ← hl, rv.length]) hst fun h' hx => ?_
  have I1 : Inv X pins σ H { s with heap := h' } := I.kept (t' := s.toks) fun b o e => hx b o (Nat.ne_of_lt (Heap.lt_size e)) e
  exact h pins _ σ H xs _ Q I1 (by simpa using rv) hw
/-- o[i] = .. -/
def gSub (to ti : TE) (t : TSet) : TG := fun v σ H Q => to σ H fun o H1 => ti σ H1 fun i H2 => t o i v H2 fun H3 => Q σ H3
theorem pg_sub {o i : Expr} {to ti : TE} {t : TSet} (ho : PE X o to) (hi : PE X i ti) (hs : PSet X t)
    (ha : ∀ v, assign (.Subscript o i pos) X.env v = (do
      let ov ← holding [v] (eval o X.env)
      let iv ← holding [v, ov] (eval i X.env)
      standAt pos
      holding [v, ov, iv] (setItem ov iv v)
      release [v, ov, iv] []) := by intro _; rfl) : PG X (.Subscript o i pos) (gSub to ti t) := by
  intro pins s σ H v u Q I r h
  rw [ha]
  refine wpAny_bind (wpAny_holding (thn (ho pins s σ H _ I h) fun ov s1 ⟨x, H1, I1, r1, q1⟩ => ?_))
  refine wpAny_bind (wpAny_holding (thn (hi pins s1 σ H1 _ I1 q1) fun iv s2 ⟨y, H2, I2, r2, q2⟩ => ?_))
  refine wpAny_bind (wpAny_standAt (wpAny_bind (wpAny_holding (thn (hs pins s2 σ H2 x y v ov iv u _ I2 r1 r2 r q2) fun _ s3 ⟨H3, I3, q3⟩ => ?_))))
  exact wpAny_release ⟨σ, H3, I3, q3⟩
/-- target = value -/
def tAsg (te : TE) (g : TG) : TS := fun D σ H => te σ H fun x H1 => g x σ H1 D.nx
theorem ps_asg {tg e : Expr} {te : TE} {g : TG} (he : PE X e te) (hg : PG X tg g) (hs : swapsWithSole [tg] e pos.line X.env = pure false := by rfl) (hw : swappedStores [tg] e X.env = pure none := by rfl)
    (h1 : (assignEach [tg] X.env).map (·.2) = [assign tg X.env] := by rfl) : PS X (.Assign [tg] e pos) (tAsg te g) := by
  intro pins s σ H D I h
  refine wpAny_Assign_stores (thn (he pins s σ H _ I h) fun v s1 ⟨x, H1, I1, r1, q1⟩ => ?_) hs hw
  rw [h1]
  exact thn (hg pins s1 σ H1 x v _ I1 r1 q1) fun _ s2 q => q
/-- name = value -/
theorem ps_set {i : Nat} {x : Str} {e : Expr} {te : TE} {pos' : Pos} (hN : X.N.Nodup) (hi : X.N[i]? = some x) (hx : Loc X.env.scope x) (he : PE X e te) (hs : swapsWith e (some (.Name x pos')) pos.line X.env = pure false := by rfl) (hf : X.fn x = true ∨ X.env.scope.names.lookup x = some .local := by first | exact .inl rfl | exact .inr rfl | assumption) :
    PS X (.Assign [.Name x pos'] e pos) (tAsg te (gName i)) := by
  intro pins s σ H D I h
  refine wpAny_Assign_Name (thn (he pins s σ H _ I h) fun v s1 ⟨y, H1, I1, r1, q1⟩ => ?_) hs
  exact store_ok I1 hN hi hx r1 (fun s2 I2 => ⟨_, H1, I2, q1⟩) hf
/-- a, b = x, y with plain local names: stored from the right; the pair itself is not tracked (the opening rows as in PyProof/Rows/TupAssign.lean:23) -/
def tPar (i j : Nat) (ta : TA) : TS := fun D σ H => ta σ H fun vs H1 => ∃ v w, vs = [v, w] ∧ D.nx ((σ.set i (some v)).set j (some w)) H1
theorem ps_par {i j : Nat} {x y : Str} {a b : Expr} {ta : TA} {px py pt : Pos} {kt k2 pt2} (hc : X.calm = true) (hN : X.N.Nodup) (hi : X.N[i]? = some x) (hj : X.N[j]? = some y) (hij : i ≠ j)
    (hx : X.env.scope.names.lookup x = some .local) (hy : X.env.scope.names.lookup y = some .local) (ha : PA X [a, b] ta)
    (hw : swappedStores [.Tuple [.Name x px, .Name y py] kt pt] (.Tuple [a, b] k2 pt2) X.env = pure (some [x, y]))
    (hs : swapsWithSole [.Tuple [.Name x px, .Name y py] kt pt] (.Tuple [a, b] k2 pt2) pos.line X.env = pure false := by rfl) :
    PS X (.Assign [.Tuple [.Name x px, .Name y py] kt pt] (.Tuple [a, b] k2 pt2) pos) (tPar i j ta) := by
  intro pins s σ H D I h
  rw [exec_Assign_arm]
  refine wpAny_bind (wpAny_standAt ?_)
  rw [hs]
  refine wpAny_bind (wpAny_pure ?_)
  rw [if_neg (by decide)]
  refine wpAny_bind (Tuple_ (thn (ha _ pins s σ H _ I h) fun us s1 ⟨vs, H1, I1, r1, q1⟩ => ?_))
  obtain ⟨v, w, e1, q1⟩ := q1
  subst e1
  obtain ⟨u1, u2, rfl, rv, rw'⟩ : ∃ u1 u2, us = [u1, u2] ∧ RelV v u1 ∧ RelV w u2 := by
    cases r1 with
    | cons p q =>
      cases q with
      | cons p' q' =>
        cases q'
        exact ⟨_, _, rfl, p, p'⟩
  refine wpAny_newObj_type ?_ (by show 2 ≤ sizeLine; decide)
  have I2 : Inv X pins σ H1 { s1 with heap := s1.heap.push { cls := .type "tuple", data := .seq [u1, u2].toArray } } := I1.kept (t' := s1.toks) fun b o e => Heap.get?_push_of_some _ e
  rw [hw]
  refine wpAny_bind (wpAny_pure ?_)
  show wpAny (model X.prog X.w) X.A (do rule "assign.swapped-stores"; let items ← unpackItems (.ref s1.heap.objs.size) 2 none; assignInOrder [fun v => bindName X.env y v, fun v => bindName X.env x v] items.reverse; pure Flow.next) _ _ _
  refine wpAny_bind (wpAny_rule (wpAny_bind (unpackItems_tuple (items := #[u1, u2]) (I.ok.hd hc) (IsTup.new s1.heap _) fun h' hx' => ?_)))
  have I3 := I2.kept (h' := h') (t' := s1.toks) fun b o e => hx' b o (Nat.ne_of_lt (Heap.lt_size e)) e
  show wpAny _ _ (assignInOrder [fun v => bindName X.env y v, fun v => bindName X.env x v] [u2, u1] >>= fun _ => pure Flow.next) _ _ _
  refine wpAny_bind (assignInOrder_cons (wpAny_bindName (store_ok I3 hN hj (.inl hy) rw' (fun s2 I4 => ?_) (.inr hy))))
  refine assignInOrder_cons (wpAny_bindName (store_ok I4 hN hi (.inl hx) rv (fun s3 I5 => assignInOrder_nil (wpAny_pure ?_)) (.inr hx)))
  rw [List.set_comm _ _ (Ne.symm hij)] at I5
  exact ⟨_, H1, I5, q1⟩
/-- name op= e -/
def tAug (i : Nat) (te : TE) (ti : TIp) : TS := fun D σ H => ∃ x, σ[i]? = some (some x) ∧ te σ H fun y H1 => ti x y H1 fun z H2 => D.nx (σ.set i (some z)) H2
theorem ps_aug {i : Nat} {x : Str} {e : Expr} {te : TE} {op : Operator} {ti : TIp} {pos' : Pos} (hN : X.N.Nodup) (hi : X.N[i]? = some x) (hx : Loc X.env.scope x) (he : PE X e te) (ho : PIp X op ti) (hf : X.fn x = true ∨ X.env.scope.names.lookup x = some .local := by first | exact .inl rfl | exact .inr rfl | assumption) :
    PS X (.AugAssign (.Name x pos') op e pos) (tAug i te ti) := by
  intro pins s σ H D I h
  obtain ⟨v, e1, h⟩ := h
  obtain ⟨m, hn, hl⟩ := I.loc
  have vis : Vis X.env.scope x := by rcases hx with k | k; exact .inl k; exact .inr (.inl k)
  obtain ⟨u, r, l⟩ := hl i x v hi e1 vis
  refine wpAny_AugAssign_Name ?_
  have go : wpAny (model X.prog X.w) X.A (eval e X.env) (fun w s₂ => wpAny (model X.prog X.w) X.A (inplaceOp op u w) (fun r s₃ => wpAny (model X.prog X.w) X.A (storeName X.env x r) (fun _ => SP X pins D .next) X.xe s₃) X.xe s₂) X.xe s := by
    refine thn (he pins s σ H _ I h) fun w s1 ⟨y, H1, I1, r1, q1⟩ => ?_
    refine thn (ho pins s1 σ H1 v y u w _ I1 r r1 q1) fun z s2 ⟨zv, H2, I2, r2, q2⟩ => ?_
    exact store_ok I2 hN hi hx r2 (fun s3 I3 => ⟨_, H2, I3, q2⟩) hf
  rcases l with ⟨hk, hm⟩ | ⟨hk, c, hc, hcell⟩
  · exact wpAny_loadName_local I.ok.kind hk hn hm go
  · rcases hk with hk | hk
    · exact wpAny_loadName_cell I.ok.kind hk hc hcell go
    · rcases hx with k | k
      · have : X.env.scope.names.lookup x = some .free := hk
        rw [k] at this; cases this
      · have : X.env.scope.names.lookup x = some .free := hk
        rw [k] at this; cases this
/-- o[i] op= e -/
def tAugS (to ti te : TE) (tget : V → V → Hp → VK → Prop) (tip : TIp) (tset : TSet) : TS := fun D σ H => to σ H fun o H1 => ti σ H1 fun i H2 => tget o i H2 fun x H3 => te σ H3 fun y H4 => tip x y H4 fun z H5 => tset o i z H5 fun H6 => D.nx σ H6
/-- o[i], by values -/
def PGet (X : Cx) (t : V → V → Hp → VK → Prop) : Prop :=
  ∀ (pins : List (Addr × Obj)) (s : Shared) (σ : St) (H : Hp) (o i : V) (ov iv : Value) (Q : VK), Inv X pins σ H s → RelV o ov → RelV i iv → t o i H Q →
    wpAny (model X.prog X.w) X.A (getItem ov iv) (EP X pins σ Q) X.xe s
theorem ps_augS {o i e : Expr} {to ti te : TE} {tget : V → V → Hp → VK → Prop} {tip : TIp} {tset : TSet} {op : Operator} {tpos : Pos} (ho : PE X o to) (hi : PE X i ti) (hg : PGet X tget) (he : PE X e te) (hp : PIp X op tip) (hs : PSet X tset)
    (ha : ∀ ov iv new, augStore i ov iv new = (do holding [new, ov, iv] (setItem ov iv new); release [new, ov, iv] []; pure .next) := by intros; rfl) : PS X (.AugAssign (.Subscript o i tpos) op e pos) (tAugS to ti te tget tip tset) := by
  intro pins s σ H D I h
  refine wpAny_AugAssign_SubscriptAny (thn (ho pins s σ H _ I h) fun ov s1 ⟨x1, H1, I1, r1, q1⟩ => ?_) ha
  refine thn (hi pins s1 σ H1 _ I1 q1) fun iv s2 ⟨x2, H2, I2, r2, q2⟩ => ?_
  refine thn (hg pins s2 σ H2 x1 x2 ov iv _ I2 r1 r2 q2) fun old s3 ⟨x3, H3, I3, r3, q3⟩ => ?_
  refine thn (he pins s3 σ H3 _ I3 q3) fun v s4 ⟨x4, H4, I4, r4, q4⟩ => ?_
  refine thn (hp pins s4 σ H4 x3 x4 old v _ I4 r3 r4 q4) fun new s5 ⟨x5, H5, I5, r5, q5⟩ => ?_
  exact thn (hs pins s5 σ H5 x1 x2 x5 ov iv new _ I5 r1 r2 r5 q5) fun _ s6 ⟨H6, I6, q6⟩ => ⟨σ, H6, I6, q6⟩
/-- ints -/
def ipI (f : Int → Int → Int) : TIp := fun x y H Q => ∃ i j, x = .int i ∧ y = .int j ∧ Q (.int (f i j)) H
theorem ip_add : PIp X .Add (ipI fun i j => i + j) := by
  intro pins s σ H x y v u Q I r1 r2 h
  obtain ⟨i, j, e1, e2, q⟩ := h
  subst e1; subst e2
  obtain ⟨t, rfl⟩ := r1
  obtain ⟨t', rfl⟩ := r2
  exact iadd_int ⟨.int _, H, I.tok _, ⟨_, rfl⟩, q⟩
theorem ip_sub : PIp X .Sub (ipI fun i j => i - j) := by
  intro pins s σ H x y v u Q I r1 r2 h
  obtain ⟨i, j, e1, e2, q⟩ := h
  subst e1; subst e2
  obtain ⟨t, rfl⟩ := r1
  obtain ⟨t', rfl⟩ := r2
  exact isub_int ⟨.int _, H, I.tok _, ⟨_, rfl⟩, q⟩
end

/-! ### while -/
section
variable {X : Cx} {pos : Pos}
/-- the invariant W with its measure -/
def tWhile (c : TT) (tb : TS) : TS := fun D σ H => ∃ W : Nat → St → Hp → Prop, (∃ m, W m σ H) ∧ ∀ m σ H, W m σ H →
  c σ H fun b H1 => if b = true then ∃ N : St → Hp → Prop, (∀ σ' H', N σ' H' → ∃ m', m' < m ∧ W m' σ' H') ∧ tb { D with nx := N, ct := N, bk := D.nx } σ H1 else D.nx σ H1
theorem ps_while {c : Expr} {body : List Stmt} {tc : TT} {tb : TS} (hp : PassesOwn (model X.prog X.w) X.A X.env X.xe) (hc : PT X c tc) (hb : PSs X body tb) : PS X (.While c body [] pos) (tWhile tc tb) := by
  intro pins s σ H D I h
  obtain ⟨W, ⟨m0, w0⟩, turn⟩ := h
  refine wpAny_While (codeAny_whileLoop (fun n s' => ∃ σ' H', Inv X pins σ' H' s' ∧ W n σ' H') ?_ m0 ⟨σ, H, I, w0⟩)
  rintro n s1 ⟨σ1, H1, I1, w1⟩
  refine wpAny_passesOwn hp (thn (hc pins s1 σ1 H1 _ I1 (turn n σ1 H1 w1)) fun b s2 ⟨H2, I2, q2⟩ => ?_)
  cases b with
  | true =>
    obtain ⟨N, hN, q2⟩ := q2
    rw [if_pos rfl]
    refine wpAny_passesOwn hp (thn (hb pins s2 σ1 H2 _ I2 q2) fun f s3 q3 => ?_)
    cases f with
    | next =>
      obtain ⟨σ3, H3, I3, n3⟩ := q3
      obtain ⟨m', hm, w3⟩ := hN σ3 H3 n3
      exact ⟨m', hm, σ3, H3, I3, w3⟩
    | cont =>
      obtain ⟨σ3, H3, I3, n3⟩ := q3
      obtain ⟨m', hm, w3⟩ := hN σ3 H3 n3
      exact ⟨m', hm, σ3, H3, I3, w3⟩
    | brk => exact q3
    | ret v => exact q3
  | false =>
    rw [if_neg Bool.false_ne_true]
    exact wpAny_execs_nil ⟨σ1, H2, I2, q2⟩
end

/-! ### what a loop or a comprehension walks -/
/-- at turn i: it yields x (the heap may grow), or it stops -/
structure It where
  go : Nat → Hp → Prop
  yld : Nat → Hp → V → Hp → Prop
  stop : Nat → Hp → Prop
/-- the iterator's own objects may turn: they are not the frame's, not pinned, younger than the entry (or a comprehension's own) -/
def FpOk (X : Cx) (pins : List (Addr × Obj)) (H : Hp) (b : Addr) : Prop :=
  H b = none ∧ b ≠ X.env.locals ∧ b ∉ X.fs ∧ (b ∈ X.ex ∨ X.s₀.heap.objs.size ≤ b) ∧ (∀ x c, X.env.cells.lookup x = some c → c ≠ b) ∧ ∀ p ∈ X.pn ++ pins, p.1 ≠ b
theorem Inv.fpOk {X : Cx} {pins : List (Addr × Obj)} {σ : St} {H H' : Hp} {s : Shared} {b : Addr} (I : Inv X pins σ H s) (hb : s.heap.objs.size ≤ b) (hn : H' b = none) : FpOk X pins H' b := by
  refine ⟨hn, Nat.ne_of_gt (Nat.lt_of_lt_of_le I.lt hb), I.nofs hb, .inr (Nat.le_trans I.sz hb), fun x c e z => ?_, fun p hp z => ?_⟩
  · obtain ⟨v, q⟩ := I.cell x c e
    exact absurd (Nat.lt_of_lt_of_le q.lt (by rw [z]; exact hb)) (Nat.lt_irrefl _)
  · exact absurd (Nat.lt_of_lt_of_le (Heap.lt_size (I.pin p hp).1) (by rw [z]; exact hb)) (Nat.lt_irrefl _)
structure Turn (P : Program) (w : World) (K : PySem.W.Frag) (tg : Expr) (J : It) (fp : List Addr) (it : Addr) (tn : Nat → Heap → Prop) : Prop where
  mem : it ∈ fp
  obj : ∀ i h, tn i h → ∀ b ∈ fp, ∃ o, h.get? b = some o ∧ ∀ v, o.data ≠ .cell v
  keep : ∀ i h h', tn i h → (∀ b ∈ fp, ∀ o, h.get? b = some o → h'.get? b = some o) → tn i h'
  item : ∀ (X : Cx), X.prog = P → X.w = w → X.K = K → X.calm = true → ∀ (i : Nat) (pins : List (Addr × Obj)) (s : Shared) (σ : St) (H : Hp) (E : Value → Shared → Prop), Inv X pins σ H s → (∀ b ∈ fp, FpOk X pins H b) → tn i s.heap → J.go i H →
    wpAny (model P w) X.A (pyNext (.ref it)) (fun r s1 => ∃ u, r = some u ∧
      wpAny (model P w) X.A (letOwnedTupleGo tg (.ref it) u) (fun _ s2 => ∃ x H', Inv X pins σ H' s2 ∧ RelV x u ∧ J.yld i H x H' ∧ tn (i + 1) s2.heap ∧ ∀ b ∈ fp, H' b = none) E s1) E s
  done : ∀ (X : Cx), X.prog = P → X.w = w → X.K = K → X.calm = true → ∀ (i : Nat) (pins : List (Addr × Obj)) (s : Shared) (σ : St) (H : Hp) (E : Value → Shared → Prop), Inv X pins σ H s → (∀ b ∈ fp, FpOk X pins H b) → tn i s.heap → J.stop i H →
    wpAny (model P w) X.A (pyNext (.ref it)) (fun r s1 => r = none ∧ Inv X pins σ H s1) E s
  self : ∀ (A : Around) (i : Nat) (s : Shared) (Q : Value → Shared → Prop) (E : Value → Shared → Prop), tn i s.heap → Q (.ref it) s → wpAny (model P w) A (pyIter (.ref it)) Q E s
abbrev TI := St → Hp → (It → Hp → Prop) → Prop
/-- an iterator has come -/
def PIE (X : Cx) (pins : List (Addr × Obj)) (σ : St) (tg : Expr) (R : It → Hp → Prop) (itv : Value) (s2 : Shared) : Prop :=
  ∃ (it : Addr) (fp : List Addr) (tn : Nat → Heap → Prop) (J : It) (H' : Hp), itv = .ref it ∧ Inv X pins σ H' s2 ∧ Turn X.prog X.w X.K tg J fp it tn ∧ tn 0 s2.heap ∧ (∀ b ∈ fp, FpOk X pins H' b) ∧ R J H'
def PI (X : Cx) (tg iter : Expr) (wi : TI) : Prop :=
  ∀ (pins : List (Addr × Obj)) (s : Shared) (σ : St) (H : Hp) (R : It → Hp → Prop), Inv X pins σ H s → wi σ H R →
    wpAny (model X.prog X.w) X.A (eval iter X.env) (fun v s1 => wpAny (model X.prog X.w) X.A (pyIter v) (PIE X pins σ tg R) X.xe s1) X.xe s

/-- the step ahead of the store is nothing for an iterator that keeps no tuple -/
theorem go_of {M : Model} {A : Around} {E : Value → Shared → Prop} {s : Shared} {tg : Expr} {it : Addr} {u : Value} {o : Obj} {n : String} {vs : Array Value} {Q : Unit → Shared → Prop} (ho : s.heap.get? it = some o) (hc : o.cls = .type n) (hd : o.data = .fields vs)
    (hn : ["enumerate", "zip", "dict_itemiterator", "dict_reverseitemiterator", "odict_iterator", "itertools.zip_longest", "itertools.pairwise"].contains n = false) (hQ : Q () s) : wpAny M A (letOwnedTupleGo tg (.ref it) u) Q E s := by
  unfold letOwnedTupleGo
  cases tg <;> first
    | exact wpAny_pure hQ
    | (cases u <;> first
        | exact wpAny_pure hQ
        | (refine wpAny_bind (wpAny_load ho ?_)
           rw [hc, hd]
           show wpAny M A (if (["enumerate", "zip", "dict_itemiterator", "dict_reverseitemiterator", "odict_iterator", "itertools.zip_longest", "itertools.pairwise"].contains n && vs[0]? == some (rawInt _)) = true then _ else _) Q E s
           rw [if_neg (by intro h; rw [hn, Bool.false_and] at h; cases h)]
           exact wpAny_pure hQ))

/-- the list at a, as it stands at each turn (a loop may append to it) -/
def Itl (K : PySem.W.Frag) (a : Addr) : It :=
  ⟨fun i H => ∃ xs x, SqL K H a xs ∧ xs[i]? = some x, fun i H x H' => H' = H ∧ ∀ xs, SqL K H a xs → xs[i]? = some x, fun i H => ∃ xs, SqL K H a xs ∧ xs.length ≤ i⟩
def Itt (K : PySem.W.Frag) (a : Addr) : It :=
  ⟨fun i H => ∃ xs x, SqT K H a xs ∧ xs[i]? = some x, fun i H x H' => H' = H ∧ ∀ xs, SqT K H a xs → xs[i]? = some x, fun i H => ∃ xs, SqT K H a xs ∧ xs.length ≤ i⟩
/-- lo, lo + 1, .. (n of them) -/
def Itr (lo : Int) (n : Nat) : It := ⟨fun i _ => i < n, fun i H x H' => H' = H ∧ x = .int (lo + i), fun i _ => n ≤ i⟩
theorem turn_list {P : Program} {w : World} {K : PySem.W.Frag} {tg : Expr} (a it : Addr) : Turn P w K tg (Itl K a) [it] it (fun i h => h.IsListIter it a i) where
  mem := by simp
  obj := fun i h st b hb => by
    have e : b = it := by simpa using hb
    subst e
    obtain ⟨o, e, c, d⟩ := st
    exact ⟨o, e, fun v z => by rw [d] at z; cases z⟩
  keep := fun i h h' st k => st.at fun o e => k it (by simp) o e
  item := by
    intro X hP hw hK hc i pins s σ H E I hf st hg
    subst hP hw hK
    obtain ⟨xs, x, hq, hx⟩ := hg
    obtain ⟨its, rv, p, hz⟩ := I.list hq
    obtain ⟨u, hu, ru⟩ := rv.get hx
    obtain ⟨f0, f1, f2, f3, f4, f5⟩ := hf it (by simp)
    refine wpAny_pyNext_list_item st p.isList (x := u) (by simpa using hu) fun h' st' sb => ?_
    have I1 : Inv X pins σ H { s with heap := h' } := I.turned (t' := s.toks) (fun b o hb e => (sb.2 b hb).trans e) f0 f1 f3 f4 f5
    obtain ⟨o, e, c, d⟩ := id st'
    exact ⟨u, rfl, go_of (s := { s with heap := h' }) e c d (by decide) ⟨x, H, I1, ru, ⟨rfl, fun ys hy => by rw [I.list_inj hy hq]; exact hx⟩, st', fun b hb => (hf b hb).1⟩⟩
  done := by
    intro X hP hw hK hc i pins s σ H E I hf st hg
    subst hP hw hK
    obtain ⟨xs, hq, hx⟩ := hg
    obtain ⟨its, rv, p, hz⟩ := I.list hq
    obtain ⟨f0, f1, f2, f3, f4, f5⟩ := hf it (by simp)
    have hl := rv.length
    exact wpAny_pyNext_list_end (I.ok.hd hc) st p.isList (by simp; omega) fun h' eb => ⟨rfl, I.turned (t' := s.toks) (fun b o hb e => eb b o hb e) f0 f1 f3 f4 f5⟩
  self := fun _ _ _ _ _ st h => wpAny_pyIter_listiter st h
theorem turn_tuple {P : Program} {w : World} {K : PySem.W.Frag} {tg : Expr} (a it : Addr) : Turn P w K tg (Itt K a) [it] it (fun i h => h.IsTupleIter it a i) where
  mem := by simp
  obj := fun i h st b hb => by
    have e : b = it := by simpa using hb
    subst e
    obtain ⟨o, e, c, d⟩ := st
    exact ⟨o, e, fun v z => by rw [d] at z; cases z⟩
  keep := fun i h h' st k => st.at fun o e => k it (by simp) o e
  item := by
    intro X hP hw hK hc i pins s σ H E I hf st hg
    subst hP hw hK
    obtain ⟨xs, x, hq, hx⟩ := hg
    obtain ⟨its, rv, p, hz⟩ := I.tuple hq
    obtain ⟨u, hu, ru⟩ := rv.get hx
    obtain ⟨f0, f1, f2, f3, f4, f5⟩ := hf it (by simp)
    refine wpAny_pyNext_tuple_item st (show s.heap.IsTuple a its.toArray from p) (x := u) (by simpa using hu) fun h' st' sb => ?_
    have I1 : Inv X pins σ H { s with heap := h' } := I.turned (t' := s.toks) (fun b o hb e => (sb.2 b hb).trans e) f0 f1 f3 f4 f5
    obtain ⟨o, e, c, d⟩ := id st'
    exact ⟨u, rfl, go_of (s := { s with heap := h' }) e c d (by decide) ⟨x, H, I1, ru, ⟨rfl, fun ys hy => by rw [I.tuple_inj hy hq]; exact hx⟩, st', fun b hb => (hf b hb).1⟩⟩
  done := by
    intro X hP hw hK hc i pins s σ H E I hf st hg
    subst hP hw hK
    obtain ⟨xs, hq, hx⟩ := hg
    obtain ⟨its, rv, p, hz⟩ := I.tuple hq
    obtain ⟨f0, f1, f2, f3, f4, f5⟩ := hf it (by simp)
    have hl := rv.length
    exact wpAny_pyNext_tuple_end (I.ok.hd hc) st (show s.heap.IsTuple a its.toArray from p) (by simp; omega) fun h' eb => ⟨rfl, I.turned (t' := s.toks) (fun b o hb e => eb b o hb e) f0 f1 f3 f4 f5⟩
  self := fun _ _ _ _ _ st h => wpAny_pyIter_tupleiter st h
theorem turn_range {P : Program} {w : World} {K : PySem.W.Frag} {tg : Expr} (it : Addr) (lo : Int) (n : Nat) : Turn P w K tg (Itr lo n) [it] it (fun i h => IsRangeIter h it (lo + (i : Nat) * 1) ((n : Int) - (i : Nat)) 1) where
  mem := by simp
  obj := fun i h st b hb => by
    have e : b = it := by simpa using hb
    subst e
    exact ⟨_, st, fun v z => by
      have z' : Data.fields _ = Data.cell v := z
      cases z'⟩
  keep := fun i h h' st k => k it (by simp) _ st
  item := by
    intro X hP hw hK hc i pins s σ H E I hf st hg
    subst hP hw hK
    obtain ⟨f0, f1, f2, f3, f4, f5⟩ := hf it (by simp)
    have W := Walks.range (prog := X.prog) (w := X.w) (I.ok.hd hc) it lo 1 n
    refine W.item i s _ _ hg st fun v h' tk hv st' kk => ?_
    obtain ⟨t, rfl⟩ := hv
    have I1 : Inv X pins σ H { s with heap := h', toks := tk } := I.turned (fun b o hb e => kk b o (by simpa using hb) e) f0 f1 f3 f4 f5
    refine ⟨_, rfl, go_of (s := { s with heap := h', toks := tk }) (n := "range_iterator") st' rfl rfl (by decide) ⟨.int (lo + i), H, I1, ⟨t, ?_⟩, ⟨rfl, rfl⟩, st', fun b hb => (hf b hb).1⟩⟩
    rw [Int.mul_one]
  done := by
    intro X hP hw hK hc i pins s σ H E I hf st hg
    subst hP hw hK
    obtain ⟨f0, f1, f2, f3, f4, f5⟩ := hf it (by simp)
    exact wpAny_pyNext_range_end (I.ok.hd hc) st (by have : n ≤ i := hg; omega) fun h' eb => ⟨rfl, I.turned (t' := s.toks) (fun b o hb e => eb b o hb e) f0 f1 f3 f4 f5⟩
  self := fun _ _ _ _ _ st h => wpAny_pyIter_rangeiter st h
end L2

namespace L2
open PySem PySem.Spec PyProof.Rows
section
variable {X : Cx} {tg : Expr}
def iList (K : PySem.W.Frag) (tl : TE) : TI := fun σ H R => tl σ H fun x H1 => ∃ a, x = .ref a ∧ (∃ xs, SqL K H1 a xs) ∧ R (Itl K a) H1
def iTup (K : PySem.W.Frag) (tl : TE) : TI := fun σ H R => tl σ H fun x H1 => ∃ a, x = .ref a ∧ (∃ xs, SqT K H1 a xs) ∧ R (Itt K a) H1
theorem pi_list {l : Expr} {tl : TE} (hl : PE X l tl) : PI X tg l (iList X.K tl) := by
  intro pins s σ H R I h
  refine thn (hl pins s σ H _ I h) fun v s1 ⟨x, H1, I1, r1, q1⟩ => ?_
  obtain ⟨a, e, ⟨xs, hq⟩, q⟩ := q1
  subst e
  cases r1
  obtain ⟨its, rv, p, hz⟩ := I1.list hq
  refine wpAny_pyIter_list p.isList ?_
  refine ⟨s1.heap.objs.size, [s1.heap.objs.size], _, _, H1, rfl, I1.kept (t' := s1.toks) fun b o e => Heap.get?_push_of_some _ e, turn_list a _, ⟨_, Heap.get?_push_size _ rfl, rfl, rfl⟩, fun b hb => ?_, q⟩
  have e : b = s1.heap.objs.size := by simpa using hb
  subst e
  exact I1.fpOk (Nat.le_refl _) (I1.hok.fresh (Nat.le_refl _))
theorem pi_tup {l : Expr} {tl : TE} (hl : PE X l tl) : PI X tg l (iTup X.K tl) := by
  intro pins s σ H R I h
  refine thn (hl pins s σ H _ I h) fun v s1 ⟨x, H1, I1, r1, q1⟩ => ?_
  obtain ⟨a, e, ⟨xs, hq⟩, q⟩ := q1
  subst e
  cases r1
  obtain ⟨its, rv, p, hz⟩ := I1.tuple hq
  refine wpAny_pyIter_tuple (show s1.heap.IsTuple a its.toArray from p) ?_
  refine ⟨s1.heap.objs.size, [s1.heap.objs.size], _, _, H1, rfl, I1.kept (t' := s1.toks) fun b o e => Heap.get?_push_of_some _ e, turn_tuple a _, ⟨_, Heap.get?_push_size _ rfl, rfl, rfl⟩, fun b hb => ?_, q⟩
  have e : b = s1.heap.objs.size := by simpa using hb
  subst e
  exact I1.fpOk (Nat.le_refl _) (I1.hok.fresh (Nat.le_refl _))
/-- a range object just made, walked -/
theorem range_it {pins : List (Addr × Obj)} {σ : St} {H : Hp} {s : Shared} {R : It → Hp → Prop} {E : Value → Shared → Prop} {lo hi : Int} {t u v : Tok} {tk : Nat} (I : Inv X pins σ H s) (h1 : -(2 ^ 62) ≤ lo) (h2 : lo < 2 ^ 62) (h3 : -(2 ^ 62) ≤ hi) (h4 : hi < 2 ^ 62)
    (q : R (Itr lo (hi - lo).toNat) H) : wpAny (model X.prog X.w) X.A (pyIter (.ref s.heap.objs.size)) (PIE X pins σ tg R) E { s with heap := s.heap.push { cls := .type "range", data := .fields #[.int lo t, .int hi u, .int 1 v] }, toks := tk } := by
  refine wpAny_pyIter_range (IsRange.new ..) (small_one h1 h2 h3 h4) ?_
  have I1 : Inv X pins σ H { s with heap := s.heap.push { cls := .type "range", data := .fields #[.int lo t, .int hi u, .int 1 v] }, toks := tk } := I.kept fun b o e => Heap.get?_push_of_some _ e
  refine ⟨(s.heap.push { cls := .type "range", data := .fields #[.int lo t, .int hi u, .int 1 v] }).objs.size, [(s.heap.push { cls := .type "range", data := .fields #[.int lo t, .int hi u, .int 1 v] }).objs.size], _, _, H, rfl,
    I1.kept (t' := tk) fun b o e => Heap.get?_push_of_some _ e, turn_range _ lo (hi - lo).toNat, ?_, fun b hb => ?_, q⟩
  · have e1 : lo + ((0 : Nat) : Int) * 1 = lo := by simp
    have e2 : (((hi - lo).toNat : Nat) : Int) - ((0 : Nat) : Int) = Builtin.Range.rangeSize lo hi 1 := by rw [rangeSize_one]; split <;> omega
    show IsRangeIter _ _ (lo + ((0 : Nat) : Int) * 1) ((((hi - lo).toNat : Nat) : Int) - ((0 : Nat) : Int)) 1
    rw [e1, e2]
    exact Heap.get?_push_size _ rfl
  · have e : b = (s.heap.push { cls := .type "range", data := .fields #[.int lo t, .int hi u, .int 1 v] }).objs.size := by simpa using hb
    subst e
    exact I1.fpOk (Nat.le_refl _) (I1.hok.fresh (Nat.le_refl _))
def iRng1 (ta : TA) : TI := fun σ H R => ta σ H fun vs H1 => ∃ j : Int, vs = [.int j] ∧ -(2 ^ 62) ≤ j ∧ j < 2 ^ 62 ∧ R (Itr 0 j.toNat) H1
def iRng2 (ta : TA) : TI := fun σ H R => ta σ H fun vs H1 => ∃ i j : Int, vs = [.int i, .int j] ∧ (-(2 ^ 62) ≤ i ∧ i < 2 ^ 62 ∧ -(2 ^ 62) ≤ j ∧ j < 2 ^ 62) ∧ R (Itr i (j - i).toNat) H1
theorem pi_range1 {a : Expr} {ta : TA} {p pos : Pos} (hg : Gl X "range") (hm : X.mg "range" = none) (ha : PA X [a] ta) (hs : starEach [a] X.env = [(false, eval a X.env)] := by rfl) : PI X tg (.Call (.Name "range" p) [a] [] pos) (iRng1 ta) := by
  intro pins s σ H R I h
  refine Call_ (ld_blt I hg hm boot_range (PyProof.Rows.callWith_type1 (thn (ha pos pins s σ H _ I h) fun us s1 ⟨vs, H1, I1, r1, q1⟩ => ?_) hs rfl))
  obtain ⟨j, e, q1, q2, q⟩ := q1
  subst e
  cases r1 with
  | cons r rr =>
    cases rr
    obtain ⟨t, rfl⟩ := r
    exact call_range_1 (range_it I1 (by omega) (by omega) q1 q2 (by simpa using q))
theorem pi_range2 {a b : Expr} {ta : TA} {p pos : Pos} (hg : Gl X "range") (hm : X.mg "range" = none) (ha : PA X [a, b] ta) (hs : starEach [a, b] X.env = [(false, eval a X.env), (false, eval b X.env)] := by rfl) (hs2 : starEach [b] X.env = [(false, eval b X.env)] := by rfl) :
    PI X tg (.Call (.Name "range" p) [a, b] [] pos) (iRng2 ta) := by
  intro pins s σ H R I h
  refine Call_ (ld_blt I hg hm boot_range (PyProof.Rows.callWith_type1 (thn (ha pos pins s σ H _ I h) fun us s1 ⟨vs, H1, I1, r1, q1⟩ => ?_) (by rw [hs, hs2]) (by rw [hs2]; rfl)))
  obtain ⟨i, j, e, ⟨q1, q2, q3, q4⟩, q⟩ := q1
  subst e
  cases r1 with
  | cons r rr =>
    cases rr with
    | cons r' rr =>
      cases rr
      obtain ⟨t, rfl⟩ := r
      obtain ⟨t', rfl⟩ := r'
      exact call_range_2 (range_it I1 q1 q2 q3 q4 q)

/-! ### for -/
/-- W: the invariant by the turn and a measure; N: what the body is to reach -/
def tFor (wi : TI) (g : TG) (tb : TS) : TS := fun D σ H => wi σ H fun J H1 => ∃ W : Nat → Nat → St → Hp → Prop, (∃ m, W 0 m σ H1) ∧ ∀ i m σ H, W i m σ H →
  (J.stop i H ∧ D.nx σ H) ∨ (J.go i H ∧ ∃ N : St → Hp → Prop, (∀ σ' H', N σ' H' → ∃ m', m' < m ∧ W (i + 1) m' σ' H') ∧ ∀ x H', J.yld i H x H' → g x σ H' fun σ2 H2 => tb { D with nx := N, ct := N, bk := D.nx } σ2 H2)
/-- the records at fp as they stand -/
def pinsAt (fp : List Addr) (h : Heap) : List (Addr × Obj) := fp.filterMap fun b => (h.get? b).map fun o => (b, o)
theorem mem_pinsAt {fp : List Addr} {h : Heap} {b : Addr} {o : Obj} (hb : b ∈ fp) (e : h.get? b = some o) : (b, o) ∈ pinsAt fp h := List.mem_filterMap.mpr ⟨b, hb, by rw [e]; rfl⟩
theorem of_pinsAt {fp : List Addr} {h : Heap} {p : Addr × Obj} (hp : p ∈ pinsAt fp h) : p.1 ∈ fp ∧ h.get? p.1 = some p.2 := by
  obtain ⟨b, hb, e⟩ := List.mem_filterMap.mp hp
  cases q : h.get? b with
  | none => rw [q] at e; cases e
  | some o =>
    rw [q] at e
    have e' : (b, o) = p := Option.some.inj e
    subst e'
    exact ⟨hb, q⟩
theorem Inv.pinned {pins : List (Addr × Obj)} {σ : St} {H : Hp} {s : Shared} {fp : List Addr} (I : Inv X pins σ H s) (hf : ∀ b ∈ fp, FpOk X pins H b) (ho : ∀ b ∈ fp, ∃ o, s.heap.get? b = some o ∧ ∀ v, o.data ≠ .cell v) : Inv X (pins ++ pinsAt fp s.heap) σ H s :=
  I.pins_of fun p hp => (List.mem_append.mp hp).elim (fun z => I.pin p (List.mem_append_right _ z)) fun z => by
    obtain ⟨hb, e⟩ := of_pinsAt z
    obtain ⟨f0, f1, f2, _⟩ := hf p.1 hb
    obtain ⟨o, e', d⟩ := ho p.1 hb
    rw [e] at e'; cases e'
    exact ⟨e, f0, f1, f2, d⟩
theorem Inv.unpinned {pins pl : List (Addr × Obj)} {σ : St} {H : Hp} {s : Shared} (I : Inv X (pins ++ pl) σ H s) : Inv X pins σ H s := I.pins_of fun p hp => I.pin p (List.mem_append_right _ (List.mem_append_left _ hp))
theorem ps_for {iter : Expr} {body : List Stmt} {wi : TI} {g : TG} {tb : TS} {pos : Pos} (hp : PassesOwn (model X.prog X.w) X.A X.env X.xe) (hc : X.calm = true) (hi : PI X tg iter wi) (hg : PG X tg g) (hb : PSs X body tb)
    (hs : ∀ x, foldedSetIterable iter X.env x = pure x := by intro _; rfl) : PS X (.For tg iter body [] pos) (tFor wi g tb) := by
  intro pins s σ H D I h
  refine wpAny_For (thn (hi pins s σ H _ I h) fun v s1 h1 => thn h1 fun itv s2 h2 => ?_) hs
  obtain ⟨it, fp, tn, J, H2, e, I2, T, st2, f2, W, ⟨m0, w0⟩, turn⟩ := h2
  subst e
  -- what stays true of the iterator's objects through the loop
  have stat : ∀ {H' : Hp}, (∀ b ∈ fp, H' b = none) → ∀ b ∈ fp, FpOk X pins H' b := fun hn b hb => ⟨hn b hb, (f2 b hb).2⟩
  refine codeAny_forLoop_any (fun n s' => ∃ i σ' H', Inv X pins σ' H' s' ∧ tn i s'.heap ∧ (∀ b ∈ fp, H' b = none) ∧ W i n σ' H') ?_ m0 ⟨0, σ, H2, I2, st2, fun b hb => (f2 b hb).1, w0⟩
  rintro n s3 ⟨i, σ3, H3, I3, st3, fr3, w3⟩
  rcases turn i n σ3 H3 w3 with ⟨stop, qn⟩ | ⟨go, N, hN, step⟩
  · refine wpAny_passesOwn hp (thn (T.done X rfl rfl rfl hc i pins s3 σ3 H3 X.xe I3 (stat fr3) st3 stop) fun r s4 ⟨hr, I4⟩ => ?_)
    subst hr
    exact wpAny_execs_nil ⟨σ3, H3, I4, qn⟩
  · refine wpAny_passesOwn hp (thn (T.item X rfl rfl rfl hc i pins s3 σ3 H3 X.xe I3 (stat fr3) st3 go) fun r s4 ⟨u, hr, h4⟩ => ?_)
    subst hr
    refine wpAny_passesOwn hp (thn h4 fun _ s5 ⟨x, H5, I5, r5, y5, st5, fr5⟩ => ?_)
    have I5' := I5.pinned (stat fr5) (T.obj _ _ st5)
    refine wpAny_passesOwn hp (thn (hg _ s5 σ3 H5 x u _ I5' r5 (step x H5 y5)) fun _ s6 ⟨σ6, H6, I6, q6⟩ => ?_)
    refine wpAny_passesOwn hp (thn (hb _ s6 σ6 H6 _ I6 q6) fun f s7 q7 => ?_)
    have again : ∀ {σ7 : St} {H7 : Hp}, Inv X (pins ++ pinsAt fp s5.heap) σ7 H7 s7 → N σ7 H7 → ∃ m, m < n ∧ ∃ i σ' H', Inv X pins σ' H' s7 ∧ tn i s7.heap ∧ (∀ b ∈ fp, H' b = none) ∧ W i m σ' H' := fun {σ7 H7} I7 n7 => by
      obtain ⟨m', hm, w7⟩ := hN σ7 H7 n7
      refine ⟨m', hm, i + 1, σ7, H7, I7.unpinned, T.keep _ _ _ st5 fun b hb o e => (I7.pin (b, o) (List.mem_append_right _ (List.mem_append_right _ (mem_pinsAt hb e)))).1, fun b hb => ?_, w7⟩
      obtain ⟨o, e, d⟩ := T.obj _ _ st5 b hb
      exact (I7.pin (b, o) (List.mem_append_right _ (List.mem_append_right _ (mem_pinsAt hb e)))).2.1
    cases f with
    | next => obtain ⟨σ7, H7, I7, n7⟩ := q7; exact again I7 n7
    | cont => obtain ⟨σ7, H7, I7, n7⟩ := q7; exact again I7 n7
    | brk => obtain ⟨σ7, H7, I7, q7⟩ := q7; exact ⟨σ7, H7, I7.unpinned, q7⟩
    | ret v => obtain ⟨x7, σ7, H7, I7, r7, q7⟩ := q7; exact ⟨x7, σ7, H7, I7.unpinned, r7, q7⟩
end

/-! ### the forms one uses -/
/-- over a list that the body leaves as it is -/
theorem for_list {K : PySem.W.Frag} {a : Addr} {xs : List V} {g : TG} {tb : TS} {D : Ends} {σ : St} {H : Hp} (Pv : Nat → St → Hp → Prop) (h0 : Pv 0 σ H) (hl : ∀ i σ H, i ≤ xs.length → Pv i σ H → SqL K H a xs)
    (hs : ∀ i x σ H, xs[i]? = some x → Pv i σ H → g x σ H fun σ2 H2 => tb { D with nx := Pv (i + 1), ct := Pv (i + 1), bk := D.nx } σ2 H2) (hd : ∀ σ H, Pv xs.length σ H → D.nx σ H) :
    ∃ W : Nat → Nat → St → Hp → Prop, (∃ m, W 0 m σ H) ∧ ∀ i m σ H, W i m σ H →
      ((Itl K a).stop i H ∧ D.nx σ H) ∨ ((Itl K a).go i H ∧ ∃ N : St → Hp → Prop, (∀ σ' H', N σ' H' → ∃ m', m' < m ∧ W (i + 1) m' σ' H') ∧ ∀ x H', (Itl K a).yld i H x H' → g x σ H' fun σ2 H2 => tb { D with nx := N, ct := N, bk := D.nx } σ2 H2) := by
  refine ⟨fun i m σ H => m = xs.length - i ∧ i ≤ xs.length ∧ Pv i σ H, ⟨xs.length, by simp, Nat.zero_le _, h0⟩, ?_⟩
  rintro i m σ H ⟨rfl, hi, p⟩
  have q := hl i σ H hi p
  by_cases hlt : i < xs.length
  · refine .inr ⟨⟨xs, xs[i], q, by simp [hlt]⟩, Pv (i + 1), fun σ' H' p' => ⟨xs.length - (i + 1), by omega, rfl, hlt, p'⟩, fun x H' y => ?_⟩
    obtain ⟨e, y⟩ := y
    subst e
    exact hs i x σ _ (y xs q) p
  · have e : i = xs.length := by omega
    subst e
    exact .inl ⟨⟨xs, q, Nat.le_refl _⟩, hd σ H p⟩
theorem for_tup {K : PySem.W.Frag} {a : Addr} {xs : List V} {g : TG} {tb : TS} {D : Ends} {σ : St} {H : Hp} (Pv : Nat → St → Hp → Prop) (h0 : Pv 0 σ H) (hl : ∀ i σ H, i ≤ xs.length → Pv i σ H → SqT K H a xs)
    (hs : ∀ i x σ H, xs[i]? = some x → Pv i σ H → g x σ H fun σ2 H2 => tb { D with nx := Pv (i + 1), ct := Pv (i + 1), bk := D.nx } σ2 H2) (hd : ∀ σ H, Pv xs.length σ H → D.nx σ H) :
    ∃ W : Nat → Nat → St → Hp → Prop, (∃ m, W 0 m σ H) ∧ ∀ i m σ H, W i m σ H →
      ((Itt K a).stop i H ∧ D.nx σ H) ∨ ((Itt K a).go i H ∧ ∃ N : St → Hp → Prop, (∀ σ' H', N σ' H' → ∃ m', m' < m ∧ W (i + 1) m' σ' H') ∧ ∀ x H', (Itt K a).yld i H x H' → g x σ H' fun σ2 H2 => tb { D with nx := N, ct := N, bk := D.nx } σ2 H2) := by
  refine ⟨fun i m σ H => m = xs.length - i ∧ i ≤ xs.length ∧ Pv i σ H, ⟨xs.length, by simp, Nat.zero_le _, h0⟩, ?_⟩
  rintro i m σ H ⟨rfl, hi, p⟩
  have q := hl i σ H hi p
  by_cases hlt : i < xs.length
  · refine .inr ⟨⟨xs, xs[i], q, by simp [hlt]⟩, Pv (i + 1), fun σ' H' p' => ⟨xs.length - (i + 1), by omega, rfl, hlt, p'⟩, fun x H' y => ?_⟩
    obtain ⟨e, y⟩ := y
    subst e
    exact hs i x σ _ (y xs q) p
  · have e : i = xs.length := by omega
    subst e
    exact .inl ⟨⟨xs, q, Nat.le_refl _⟩, hd σ H p⟩
theorem for_range {lo : Int} {n : Nat} {g : TG} {tb : TS} {D : Ends} {σ : St} {H : Hp} (Pv : Nat → St → Hp → Prop) (h0 : Pv 0 σ H)
    (hs : ∀ i σ H, i < n → Pv i σ H → g (.int (lo + i)) σ H fun σ2 H2 => tb { D with nx := Pv (i + 1), ct := Pv (i + 1), bk := D.nx } σ2 H2) (hd : ∀ σ H, Pv n σ H → D.nx σ H) :
    ∃ W : Nat → Nat → St → Hp → Prop, (∃ m, W 0 m σ H) ∧ ∀ i m σ H, W i m σ H →
      ((Itr lo n).stop i H ∧ D.nx σ H) ∨ ((Itr lo n).go i H ∧ ∃ N : St → Hp → Prop, (∀ σ' H', N σ' H' → ∃ m', m' < m ∧ W (i + 1) m' σ' H') ∧ ∀ x H', (Itr lo n).yld i H x H' → g x σ H' fun σ2 H2 => tb { D with nx := N, ct := N, bk := D.nx } σ2 H2) := by
  refine ⟨fun i m σ H => m = n - i ∧ i ≤ n ∧ Pv i σ H, ⟨n, by simp, Nat.zero_le _, h0⟩, ?_⟩
  rintro i m σ H ⟨rfl, hi, p⟩
  by_cases hlt : i < n
  · refine .inr ⟨hlt, Pv (i + 1), fun σ' H' p' => ⟨n - (i + 1), by omega, rfl, hlt, p'⟩, fun x H' y => ?_⟩
    obtain ⟨e, y⟩ := y
    subst e y
    exact hs i σ _ hlt p
  · have e : i = n := by omega
    subst e
    exact .inl ⟨Nat.le_refl _, hd σ H p⟩
/-- while, by a word and a measure of the state -/
theorem while_by {c : TT} {tb : TS} {D : Ends} {σ : St} {H : Hp} (Pv : St → Hp → Prop) (μ : St → Hp → Nat) (h0 : Pv σ H)
    (hs : ∀ σ H, Pv σ H → c σ H fun b H1 => if b = true then tb { D with nx := fun σ' H' => Pv σ' H' ∧ μ σ' H' < μ σ H, ct := fun σ' H' => Pv σ' H' ∧ μ σ' H' < μ σ H, bk := D.nx } σ H1 else D.nx σ H1)
    (mono : ∀ σ H Q Q', (∀ b H1, Q b H1 → Q' b H1) → c σ H Q → c σ H Q') : tWhile c tb D σ H := by
  refine ⟨fun m σ H => m = μ σ H ∧ Pv σ H, ⟨_, rfl, h0⟩, ?_⟩
  rintro m σ H ⟨rfl, p⟩
  refine mono σ H _ _ (fun b H1 q => ?_) (hs σ H p)
  cases b with
  | true => exact ⟨_, fun σ' H' ⟨p', l⟩ => ⟨_, l, rfl, p'⟩, q⟩
  | false => exact q
end L2

namespace L2
open PySem PySem.Spec PyProof.Rows

abbrev R2 := V → V → Hp → VK → Prop
/-- a two-place operation on values: f is binaryOp op, inplaceOp op or compareOp op -/
def OpR (X : Cx) (f : Value → Value → Sem Value) (r : R2) : Prop :=
  ∀ (pins : List (Addr × Obj)) (s : Shared) (σ : St) (H : Hp) (x y : V) (v u : Value) (Q : VK), Inv X pins σ H s → RelV x v → RelV y u → r x y H Q →
    wpAny (model X.prog X.w) X.A (f v u) (EP X pins σ Q) X.xe s
/-- a one-place operation -/
def UnR (X : Cx) (f : Value → Sem Value) (r : V → Hp → VK → Prop) : Prop :=
  ∀ (pins : List (Addr × Obj)) (s : Shared) (σ : St) (H : Hp) (x : V) (v : Value) (Q : VK), Inv X pins σ H s → RelV x v → r x H Q →
    wpAny (model X.prog X.w) X.A (f v) (EP X pins σ Q) X.xe s
/-- a call of a value that is known (a builtin, a type) with values -/
def CallR (X : Cx) (f : Value) (r : List V → Hp → VK → Prop) : Prop :=
  ∀ (pins : List (Addr × Obj)) (s : Shared) (σ : St) (H : Hp) (xs : List V) (us : List Value) (Q : VK), Inv X pins σ H s → Vals xs us → r xs H Q →
    wpAny (model X.prog X.w) X.A (call f us) (EP X pins σ Q) X.xe s
/-- a value's truth -/
def TruR (X : Cx) (r : V → Hp → (Bool → Hp → Prop) → Prop) : Prop :=
  ∀ (pins : List (Addr × Obj)) (s : Shared) (σ : St) (H : Hp) (x : V) (v : Value) (Q : Bool → Hp → Prop), Inv X pins σ H s → RelV x v → r x H Q →
    wpAny (model X.prog X.w) X.A (truthy v) (TP X pins σ Q) X.xe s

def tOp (r : R2) (ta tb : TE) : TE := fun σ H Q => ta σ H fun x H1 => tb σ H1 fun y H2 => r x y H2 Q
def tUn (r : V → Hp → VK → Prop) (ta : TE) : TE := fun σ H Q => ta σ H fun x H1 => r x H1 Q
/-- ints in, under C, and a value out -/
def rI (C : Int → Int → Prop) (g : Int → Int → V) : R2 := fun x y H Q => ∃ i j, x = .int i ∧ y = .int j ∧ C i j ∧ Q (g i j) H
def rI0 (g : Int → Int → V) : R2 := fun x y H Q => ∃ i j, x = .int i ∧ y = .int j ∧ Q (g i j) H
def rU (g : Int → V) : V → Hp → VK → Prop := fun x H Q => ∃ i, x = .int i ∧ Q (g i) H

section
variable {X : Cx} {a b c : Expr} {ta tb tc : TE} {pos : Pos}

theorem binT (ha : PE X a ta) (hb : PE X b tb) {pins : List (Addr × Obj)} {s : Shared} {σ : St} {H : Hp} {R : V → V → Hp → Prop} (I : Inv X pins σ H s)
    (h : ta σ H fun x H1 => tb σ H1 fun y H2 => R x y H2) {Q : Value → Shared → Prop} {f : Value → Value → Sem Value}
    (hf : ∀ v u s2 x y H2, Inv X pins σ H2 s2 → RelV x v → RelV y u → R x y H2 → wpAny (model X.prog X.w) X.A (f v u) Q X.xe s2) :
    wpAny (model X.prog X.w) X.A (eval a X.env) (fun v s₁ => wpAny (model X.prog X.w) X.A (eval b X.env) (fun u s₂ => wpAny (model X.prog X.w) X.A (f v u) Q X.xe s₂) X.xe s₁) X.xe s := by
  refine thn (ha pins s σ H _ I h) fun v s1 ⟨x, H1, I1, r1, q1⟩ => ?_
  refine thn (hb pins s1 σ H1 _ I1 q1) fun u s2 ⟨y, H2, I2, r2, q2⟩ => ?_
  exact hf v u s2 x y H2 I2 r1 r2 q2

theorem pe_op {op : Operator} {r : R2} (ho : OpR X (binaryOp op) r) (ha : PE X a ta) (hb : PE X b tb) : PE X (.BinOp a op b pos) (tOp r ta tb) := by
  intro pins s σ H Q I h
  exact wpAny_BinOp (binT ha hb I h fun v u s2 x y H2 I2 rx ry q => ho pins s2 σ H2 x y v u Q I2 rx ry q)
theorem pe_un {op : UnaryOp} {r : V → Hp → VK → Prop} (ho : UnR X (unaryOp op) r) (ha : PE X a ta) : PE X (.UnaryOp op a pos) (tUn r ta) := by
  intro pins s σ H Q I h
  exact UnaryOp_ (thn (ha pins s σ H _ I h) fun v s1 ⟨x, H1, I1, r1, q1⟩ => ho pins s1 σ H1 x v Q I1 r1 q1)
/-- a op= e at a name: the name's slot i -/
theorem augR {op : Operator} {r : R2} (ho : OpR X (inplaceOp op) r) {pins : List (Addr × Obj)} {s : Shared} {σ : St} {H : Hp} {x y : V} {v u : Value} {Q : VK} (I : Inv X pins σ H s)
    (rx : RelV x v) (ry : RelV y u) (q : r x y H Q) : wpAny (model X.prog X.w) X.A (inplaceOp op v u) (EP X pins σ Q) X.xe s := ho pins s σ H x y v u Q I rx ry q

/-! ### ints -/
theorem opI {f : Value → Value → Sem Value} {C : Int → Int → Prop} {g : Int → Int → Int}
    (rule : ∀ (i j : Int) (t u : Tok) (s : Shared) (Q : Value → Shared → Prop) (E : Value → Shared → Prop), C i j → Q (.int (g i j) s.toks) { s with toks := s.toks + 1 } → wpAny (model X.prog X.w) X.A (f (.int i t) (.int j u)) Q E s) :
    OpR X f (rI C fun i j => .int (g i j)) := by
  intro pins s σ H x y v u Q I rx ry h
  obtain ⟨i, j, rfl, rfl, hc, q⟩ := h
  obtain ⟨t, rfl⟩ := rx
  obtain ⟨t', rfl⟩ := ry
  exact rule i j t t' s _ _ hc ⟨.int (g i j), H, I.tok _, ⟨_, rfl⟩, q⟩
theorem opI0 {f : Value → Value → Sem Value} {g : Int → Int → Int}
    (rule : ∀ (i j : Int) (t u : Tok) (s : Shared) (Q : Value → Shared → Prop) (E : Value → Shared → Prop), Q (.int (g i j) s.toks) { s with toks := s.toks + 1 } → wpAny (model X.prog X.w) X.A (f (.int i t) (.int j u)) Q E s) :
    OpR X f (rI0 fun i j => .int (g i j)) := by
  intro pins s σ H x y v u Q I rx ry h
  obtain ⟨i, j, rfl, rfl, q⟩ := h
  obtain ⟨t, rfl⟩ := rx
  obtain ⟨t', rfl⟩ := ry
  exact rule i j t t' s _ _ ⟨.int (g i j), H, I.tok _, ⟨_, rfl⟩, q⟩
theorem opB0 {f : Value → Value → Sem Value} {g : Int → Int → Bool}
    (rule : ∀ (i j : Int) (t u : Tok) (s : Shared) (Q : Value → Shared → Prop) (E : Value → Shared → Prop), Q (.bool (g i j)) s → wpAny (model X.prog X.w) X.A (f (.int i t) (.int j u)) Q E s) :
    OpR X f (rI0 fun i j => .bl (g i j)) := by
  intro pins s σ H x y v u Q I rx ry h
  obtain ⟨i, j, rfl, rfl, q⟩ := h
  obtain ⟨t, rfl⟩ := rx
  obtain ⟨t', rfl⟩ := ry
  exact rule i j t t' s _ _ ⟨.bl (g i j), H, I, rfl, q⟩

def CDiv (i j : Int) : Prop := 0 < j ∧ j < 1073741824
def CDivN (i j : Int) : Prop := j ≠ 0 ∧ j.natAbs < 1073741824
def CPow (i j : Int) : Prop := 0 ≤ j ∧ j ≤ 1000000 ∧ i.natAbs < 2 ^ 64
def CMul (i j : Int) : Prop := (-(2 ^ 64) < i ∧ i < 2 ^ 64) ∨ (-(2 ^ 64) < j ∧ j < 2 ^ 64)
theorem CMul.ok {i j : Int} (h : CMul i j) : IntMulOk i j := by
  rcases h with ⟨h1, h2⟩ | ⟨h1, h2⟩
  · exact .of_left (intBits_le_64 h1 h2)
  · exact .of_right (intBits_le_64 h1 h2)
theorem two_pow_nn (k : Nat) : (0 : Int) ≤ 2 ^ k := by
  rw [two_pow_cast]
  exact Int.natCast_nonneg _

theorem op_add : OpR X (binaryOp .Add) (rI0 fun i j => .int (i + j)) := opI0 fun _ _ _ _ _ _ _ q => add_int q
theorem op_sub : OpR X (binaryOp .Sub) (rI0 fun i j => .int (i - j)) := opI0 fun _ _ _ _ _ _ _ q => sub_int q
theorem op_mul : OpR X (binaryOp .Mult) (rI CMul fun i j => .int (i * j)) := opI fun _ _ _ _ _ _ _ hc q => mul_int q hc.ok
/-- // by a positive divisor -/
theorem op_fdiv : OpR X (binaryOp .FloorDiv) (rI CDiv fun i j => .int (i / j)) := opI fun i j _ _ _ _ _ hc q => by
  have h1 : (0 : Int) < j := hc.1
  have h2 : j < 1073741824 := hc.2
  exact floordiv_int (by omega) (by rw [Int.fdiv_eq_ediv_of_nonneg i (by omega)]; exact q) (.inl (PyProof.noPylong_small (by omega)))
theorem op_fdivN : OpR X (binaryOp .FloorDiv) (rI CDivN fun i j => .int (i.fdiv j)) := opI fun _ _ _ _ _ _ _ hc q => floordiv_int hc.1 q (.inl (PyProof.noPylong_small hc.2))
/-- % by a positive divisor of any size -/
theorem op_mod : OpR X (binaryOp .Mod) (rI (fun _ j => 0 < j) fun i j => .int (i % j)) := opI fun i j _ _ _ _ _ hc q => by
  have h1 : (0 : Int) < j := hc
  exact mod_int' (by omega) (by rw [Int.fmod_eq_emod_of_nonneg i (by omega)]; exact q)
theorem op_modN : OpR X (binaryOp .Mod) (rI (fun _ j => j ≠ 0) fun i j => .int (i.fmod j)) := opI fun _ _ _ _ _ _ _ hc q => mod_int' hc q
theorem op_pow : OpR X (binaryOp .Pow) (rI CPow fun i j => .int (i ^ j.toNat)) := opI fun _ _ _ _ _ _ _ hc q => pow_int_small hc.1 hc.2.1 hc.2.2 q
theorem op_shl : OpR X (binaryOp .LShift) (rI CPow fun i j => .int (i * 2 ^ j.toNat)) := opI fun _ _ _ _ _ _ _ hc q => lshift_int_small hc.1 hc.2.1 hc.2.2 q
theorem op_shr : OpR X (binaryOp .RShift) (rI (fun _ j => 0 ≤ j) fun i j => .int (i / 2 ^ j.toNat)) := opI fun i j _ _ _ _ _ hc q =>
  rshift_int hc (by rw [Int.fdiv_eq_ediv_of_nonneg i (two_pow_nn _)]; exact q)
theorem op_and : OpR X (binaryOp .BitAnd) (rI0 fun i j => .int (Builtin.bitAnd i j)) := opI0 fun _ _ _ _ _ _ _ q => and_int q
theorem op_or : OpR X (binaryOp .BitOr) (rI0 fun i j => .int (Builtin.bitOr i j)) := opI0 fun _ _ _ _ _ _ _ q => or_int q
theorem op_xor : OpR X (binaryOp .BitXor) (rI0 fun i j => .int (Builtin.bitXor i j)) := opI0 fun _ _ _ _ _ _ _ q => xor_int q

theorem iop_add : OpR X (inplaceOp .Add) (rI0 fun i j => .int (i + j)) := opI0 fun _ _ _ _ _ _ _ q => iadd_int q
theorem iop_sub : OpR X (inplaceOp .Sub) (rI0 fun i j => .int (i - j)) := opI0 fun _ _ _ _ _ _ _ q => isub_int q
theorem iop_mul : OpR X (inplaceOp .Mult) (rI CMul fun i j => .int (i * j)) := opI fun _ _ _ _ _ _ _ hc q => imul_int q hc.ok
theorem iop_fdiv : OpR X (inplaceOp .FloorDiv) (rI CDiv fun i j => .int (i / j)) := opI fun i j _ _ _ _ _ hc q => by
  have h1 : (0 : Int) < j := hc.1
  have h2 : j < 1073741824 := hc.2
  exact ifloordiv_int (by omega) (by rw [Int.fdiv_eq_ediv_of_nonneg i (by omega)]; exact q) (.inl (PyProof.noPylong_small (by omega)))
theorem iop_mod : OpR X (inplaceOp .Mod) (rI (fun _ j => 0 < j) fun i j => .int (i % j)) := opI fun i j _ _ _ _ _ hc q => by
  have h1 : (0 : Int) < j := hc
  exact imod_int (by omega) (by rw [Int.fmod_eq_emod_of_nonneg i (by omega)]; exact q)
theorem iop_shl : OpR X (inplaceOp .LShift) (rI CPow fun i j => .int (i * 2 ^ j.toNat)) := opI fun _ _ _ _ _ _ _ hc q => ilshift_int_small hc.1 hc.2.1 hc.2.2 q
theorem iop_shr : OpR X (inplaceOp .RShift) (rI (fun _ j => 0 ≤ j) fun i j => .int (i / 2 ^ j.toNat)) := opI fun i j _ _ _ _ _ hc q =>
  irshift_int hc (by rw [Int.fdiv_eq_ediv_of_nonneg i (two_pow_nn _)]; exact q)
theorem iop_and : OpR X (inplaceOp .BitAnd) (rI0 fun i j => .int (Builtin.bitAnd i j)) := opI0 fun _ _ _ _ _ _ _ q => iand_int q
theorem iop_or : OpR X (inplaceOp .BitOr) (rI0 fun i j => .int (Builtin.bitOr i j)) := opI0 fun _ _ _ _ _ _ _ q => ior_int q
theorem iop_xor : OpR X (inplaceOp .BitXor) (rI0 fun i j => .int (Builtin.bitXor i j)) := opI0 fun _ _ _ _ _ _ _ q => ixor_int q

theorem unI {f : Value → Sem Value} {g : Int → Int}
    (rule : ∀ (i : Int) (t : Tok) (s : Shared) (Q : Value → Shared → Prop) (E : Value → Shared → Prop), Q (.int (g i) s.toks) { s with toks := s.toks + 1 } → wpAny (model X.prog X.w) X.A (f (.int i t)) Q E s) :
    UnR X f (rU fun i => .int (g i)) := by
  intro pins s σ H x v Q I rx h
  obtain ⟨i, rfl, q⟩ := h
  obtain ⟨t, rfl⟩ := rx
  exact rule i t s _ _ ⟨.int (g i), H, I.tok _, ⟨_, rfl⟩, q⟩
theorem un_neg : UnR X (unaryOp .USub) (rU fun i => .int (-i)) := unI fun _ _ _ _ _ q => neg_int q
theorem un_inv : UnR X (unaryOp .Invert) (rU fun i => .int (Builtin.bitNot i)) := unI fun _ _ _ _ _ q => invert_int q

/-! ### bools among ints: n += (a < b) -/
theorem op_add_ib : OpR X (binaryOp .Add) (fun x y H Q => ∃ i k, x = .int i ∧ y = .bl k ∧ Q (.int (i + b2i k)) H) := by
  intro pins s σ H x y v u Q I rx ry h
  obtain ⟨i, k, rfl, rfl, q⟩ := h
  obtain ⟨t, rfl⟩ := rx
  cases ry
  exact add_int_bool ⟨.int (i + b2i k), H, I.tok _, ⟨_, rfl⟩, q⟩
end

/-! ### comparisons -/
/-- the scalars that == tells apart as data does -/
def scal : V → V → Bool
  | .non, .non => true | .non, .int _ => true | .int _, .non => true | .non, .bl _ => true | .bl _, .non => true | .non, .str _ => true | .str _, .non => true
  | .int _, .int _ => true | .bl _, .bl _ => true | .str _, .str _ => true | .byt _, .byt _ => true
  | .int _, .str _ => true | .str _, .int _ => true | .bl _, .str _ => true | .str _, .bl _ => true
  | _, _ => false
def rEq : R2 := fun x y H Q => scal x y = true ∧ Q (.bl (decide (x = y))) H
def rNe : R2 := fun x y H Q => scal x y = true ∧ Q (.bl (!decide (x = y))) H

theorem dec_int {i j : Int} : decide (V.int i = V.int j) = (i == j) := by
  rw [Bool.eq_iff_iff]
  simp
theorem dec_bl {i j : Bool} : decide (V.bl i = V.bl j) = (i == j) := by
  rw [Bool.eq_iff_iff]
  simp
theorem dec_str {i j : Str} : decide (V.str i = V.str j) = (i == j) := by
  rw [Bool.eq_iff_iff]
  simp
theorem dec_byt {i j : Array UInt8} : decide (V.byt i = V.byt j) = (i.toList == j.toList) := by
  rw [Bool.eq_iff_iff]
  cases i
  cases j
  simp

section
variable {X : Cx} {a b c : Expr} {ta tb tc : TE} {pos : Pos}
theorem fin_bl {pins : List (Addr × Obj)} {σ : St} {H : Hp} {s : Shared} {Q : VK} {k k' : Bool} (I : Inv X pins σ H s) (q : Q (.bl k) H) (e : k = k') : EP X pins σ Q (.bool k') s := by
  subst e
  exact ⟨.bl k, H, I, rfl, q⟩
theorem op_eq : OpR X (compareOp .Eq) rEq := by
  intro pins s σ H x y v u Q I rx ry h
  obtain ⟨hs, q⟩ := h
  cases x with
  | non =>
    cases rx
    cases y with
    | non => cases ry; exact PySem.EqNone.eq_none_none (fin_bl I q (by simp))
    | bl j => cases ry; exact PySem.EqNone.eq_none_bool (fin_bl I q (by simp))
    | int j => obtain ⟨t', rfl⟩ := ry; exact PySem.EqNone.eq_none_int (fin_bl I q (by simp))
    | str j => obtain ⟨t', rfl⟩ := ry; exact PySem.EqNone.eq_none_str (fin_bl I q (by simp))
    | _ => exact absurd (show false = true from hs) Bool.false_ne_true
  | bl i =>
    cases rx
    cases y with
    | non => cases ry; exact PySem.EqNone.eq_bool_none (fin_bl I q (by simp))
    | bl j => cases ry; exact eq_bool (fin_bl I q dec_bl)
    | str j => obtain ⟨t', rfl⟩ := ry; exact PySem.EqMixed.eq_bool_str (fin_bl I q (by simp))
    | _ => exact absurd (show false = true from hs) Bool.false_ne_true
  | int i =>
    obtain ⟨t, rfl⟩ := rx
    cases y with
    | non => cases ry; exact PySem.EqNone.eq_int_none (fin_bl I q (by simp))
    | int j => obtain ⟨t', rfl⟩ := ry; exact eq_int (fin_bl I q dec_int)
    | str j => obtain ⟨t', rfl⟩ := ry; exact PySem.EqMixed.eq_int_str (fin_bl I q (by simp))
    | _ => exact absurd (show false = true from hs) Bool.false_ne_true
  | str i =>
    obtain ⟨t, rfl⟩ := rx
    cases y with
    | non => cases ry; exact PySem.EqNone.eq_str_none (fin_bl I q (by simp))
    | bl j => cases ry; exact PySem.EqMixed.eq_str_bool (fin_bl I q (by simp))
    | int j => obtain ⟨t', rfl⟩ := ry; exact PySem.EqMixed.eq_str_int (fin_bl I q (by simp))
    | str j => obtain ⟨t', rfl⟩ := ry; exact eq_str (fin_bl I q dec_str)
    | _ => exact absurd (show false = true from hs) Bool.false_ne_true
  | byt i =>
    obtain ⟨t, rfl⟩ := rx
    cases y with
    | byt j => obtain ⟨t', rfl⟩ := ry; exact PySem.W.eq_bytes (fin_bl I q dec_byt)
    | _ => exact absurd (show false = true from hs) Bool.false_ne_true
  | _ => cases y <;> exact absurd (show false = true from hs) Bool.false_ne_true
theorem op_ne : OpR X (compareOp .NotEq) rNe := by
  intro pins s σ H x y v u Q I rx ry h
  obtain ⟨hs, q⟩ := h
  cases x with
  | non =>
    cases rx
    cases y with
    | non => cases ry; exact PySem.EqNone.ne_none_none (fin_bl I q (by simp))
    | bl j => cases ry; exact PySem.EqNone.ne_none_bool (fin_bl I q (by simp))
    | int j => obtain ⟨t', rfl⟩ := ry; exact PySem.EqNone.ne_none_int (fin_bl I q (by simp))
    | str j => obtain ⟨t', rfl⟩ := ry; exact PySem.EqNone.ne_none_str (fin_bl I q (by simp))
    | _ => exact absurd (show false = true from hs) Bool.false_ne_true
  | bl i =>
    cases rx
    cases y with
    | non => cases ry; exact PySem.EqNone.ne_bool_none (fin_bl I q (by simp))
    | bl j => cases ry; exact ne_bool (fin_bl I q (congrArg not dec_bl))
    | str j => obtain ⟨t', rfl⟩ := ry; exact PySem.EqMixed.ne_bool_str (fin_bl I q (by simp))
    | _ => exact absurd (show false = true from hs) Bool.false_ne_true
  | int i =>
    obtain ⟨t, rfl⟩ := rx
    cases y with
    | non => cases ry; exact PySem.EqNone.ne_int_none (fin_bl I q (by simp))
    | int j => obtain ⟨t', rfl⟩ := ry; exact ne_int (fin_bl I q (congrArg not dec_int))
    | str j => obtain ⟨t', rfl⟩ := ry; exact PySem.EqMixed.ne_int_str (fin_bl I q (by simp))
    | _ => exact absurd (show false = true from hs) Bool.false_ne_true
  | str i =>
    obtain ⟨t, rfl⟩ := rx
    cases y with
    | non => cases ry; exact PySem.EqNone.ne_str_none (fin_bl I q (by simp))
    | bl j => cases ry; exact PySem.EqMixed.ne_str_bool (fin_bl I q (by simp))
    | int j => obtain ⟨t', rfl⟩ := ry; exact PySem.EqMixed.ne_str_int (fin_bl I q (by simp))
    | str j => obtain ⟨t', rfl⟩ := ry; exact ne_str (fin_bl I q (congrArg not dec_str))
    | _ => exact absurd (show false = true from hs) Bool.false_ne_true
  | byt i =>
    obtain ⟨t, rfl⟩ := rx
    cases y with
    | byt j => obtain ⟨t', rfl⟩ := ry; exact PySem.W.ne_bytes (fin_bl I q (congrArg not dec_byt))
    | _ => exact absurd (show false = true from hs) Bool.false_ne_true
  | _ => cases y <;> exact absurd (show false = true from hs) Bool.false_ne_true

theorem op_lt : OpR X (compareOp .Lt) (rI0 fun i j => .bl (decide (i < j))) := opB0 fun _ _ _ _ _ _ _ q => lt_int q
theorem op_le : OpR X (compareOp .LtE) (rI0 fun i j => .bl (decide (i ≤ j))) := opB0 fun _ _ _ _ _ _ _ q => le_int q
theorem op_gt : OpR X (compareOp .Gt) (rI0 fun i j => .bl (decide (j < i))) := opB0 fun _ _ _ _ _ _ _ q => gt_int q
theorem op_ge : OpR X (compareOp .GtE) (rI0 fun i j => .bl (decide (j ≤ i))) := opB0 fun _ _ _ _ _ _ _ q => ge_int q
theorem op_lt_str : OpR X (compareOp .Lt) (fun x y H Q => ∃ i j, x = .str i ∧ y = .str j ∧ Q (.bl (decide (i.cps.toList < j.cps.toList))) H) := by
  intro pins s σ H x y v u Q I rx ry h
  obtain ⟨i, j, rfl, rfl, q⟩ := h
  obtain ⟨t, rfl⟩ := rx
  obtain ⟨t', rfl⟩ := ry
  exact lt_str (fin_bl I q rfl)
/-- the one string within the other -/
theorem op_in_str : OpR X (compareOp .In) (fun x y H Q => ∃ i j, x = .str i ∧ y = .str j ∧ Q (.bl (!(Builtin.Str.occurrences j i 0 j.length 1).isEmpty)) H) := by
  intro pins s σ H x y v u Q I rx ry h
  obtain ⟨i, j, rfl, rfl, q⟩ := h
  obtain ⟨t, rfl⟩ := rx
  obtain ⟨t', rfl⟩ := ry
  exact in_str (fin_bl I q rfl)

/-- is None, is not None: the right side a value none -/
theorem op_isN : OpR X (compareOp .Is) (fun x y H Q => y = .non ∧ Q (.bl (decide (x = .non))) H) := by
  intro pins s σ H x y v u Q I rx ry h
  obtain ⟨rfl, q⟩ := h
  cases ry
  refine is_none_gen (fin_bl I q ?_)
  cases x <;> first
    | (cases rx; rfl)
    | (obtain ⟨t, rfl⟩ := rx; rfl)
theorem op_notN : OpR X (compareOp .IsNot) (fun x y H Q => y = .non ∧ Q (.bl (!decide (x = .non))) H) := by
  intro pins s σ H x y v u Q I rx ry h
  obtain ⟨rfl, q⟩ := h
  cases ry
  refine isnot_none_gen (fin_bl I q ?_)
  cases x <;> first
    | (cases rx; rfl)
    | (obtain ⟨t, rfl⟩ := rx; rfl)

theorem op_notin_str : OpR X (compareOp .NotIn) (fun x y H Q => ∃ i j, x = .str i ∧ y = .str j ∧ Q (.bl (!(!(Builtin.Str.occurrences j i 0 j.length 1).isEmpty))) H) := by
  intro pins s σ H x y v u Q I rx ry h
  obtain ⟨i, j, rfl, rfl, q⟩ := h
  obtain ⟨t, rfl⟩ := rx
  obtain ⟨t', rfl⟩ := ry
  exact notIn_str (fin_bl I q rfl)
/-- is, is not of two objects that are tracked lists or instances -/
def isObj : HO → Bool
  | .lst _ => true
  | .ins _ _ _ => true
  | _ => false
theorem obj_there {pins : List (Addr × Obj)} {s : Shared} {σ : St} {H : Hp} {a : Addr} {o : HO} (I : Inv X pins σ H s) (h : H a = some o) (p : isObj o = true) : ∃ ob, s.heap.get? a = some ob ∧ ob.cls ≠ .type "tuple" := by
  cases o with
  | lst xs =>
    obtain ⟨_, its, n, _, e⟩ : xs.length ≤ sizeLine ∧ ∃ (its : List Value) (n : Nat), Vals xs its ∧ s.heap.get? a = some { cls := .type "list", data := .seq its.toArray n } := I.hok a _ h
    exact ⟨_, e, (by show Value.type "list" ≠ .type "tuple"; decide +kernel)⟩
  | ins C dx fs =>
    have x := I.hok a _ h
    obtain ⟨_, _, _, e, _⟩ := x
    exact ⟨_, e, (by show Value.ref C ≠ .type "tuple"; exact fun z => by cases z)⟩
  | _ => exact absurd (show false = true from p) Bool.false_ne_true
theorem op_is_ref : OpR X (compareOp .Is) (fun x y H Q => ∃ a b oa ob, x = .ref a ∧ y = .ref b ∧ H a = some oa ∧ isObj oa = true ∧ H b = some ob ∧ isObj ob = true ∧ Q (.bl (decide (a = b))) H) := by
  intro pins s σ H x y v u Q I rx ry h
  obtain ⟨a, b, oa, ob, rfl, rfl, ha, pa, hb, pb, q⟩ := h
  cases rx
  cases ry
  obtain ⟨o1, e1, n1⟩ := obj_there I ha pa
  obtain ⟨o2, e2, _⟩ := obj_there I hb pb
  by_cases z : a = b
  · subst z
    exact wpAny_is_ref_self (fin_bl I q (by simp))
  · exact wpAny_is_ref_other z e1 e2 n1 (fin_bl I q (by simp [z]))
theorem op_isnot_ref : OpR X (compareOp .IsNot) (fun x y H Q => ∃ a b oa ob, x = .ref a ∧ y = .ref b ∧ H a = some oa ∧ isObj oa = true ∧ H b = some ob ∧ isObj ob = true ∧ Q (.bl (!decide (a = b))) H) := by
  intro pins s σ H x y v u Q I rx ry h
  obtain ⟨a, b, oa, ob, rfl, rfl, ha, pa, hb, pb, q⟩ := h
  cases rx
  cases ry
  obtain ⟨o1, e1, n1⟩ := obj_there I ha pa
  obtain ⟨o2, e2, _⟩ := obj_there I hb pb
  by_cases z : a = b
  · subst z
    exact wpAny_isNot_ref_self (fin_bl I q (by simp))
  · exact wpAny_isNot_ref_other z e1 e2 n1 (fin_bl I q (by simp [z]))

/-- two rules for one operation: by cases -/
theorem OpR.or {f : Value → Value → Sem Value} {r r' : R2} (h : OpR X f r) (h' : OpR X f r') : OpR X f (fun x y H Q => r x y H Q ∨ r' x y H Q) := by
  intro pins s σ H x y v u Q I rx ry q
  rcases q with q | q
  · exact h pins s σ H x y v u Q I rx ry q
  · exact h' pins s σ H x y v u Q I rx ry q

theorem nomark (b : Expr) {op : CmpOp} (h : op ≠ .In := by decide) (h2 : op ≠ .NotIn := by decide) : behindInMarks op b = false := by
  have e1 : (op == CmpOp.In) = false := by cases op <;> first | rfl | exact absurd rfl h
  have e2 : (op == CmpOp.NotIn) = false := by cases op <;> first | rfl | exact absurd rfl h2
  cases b <;> simp [behindInMarks, e1, e2]
/-- a comparison as a value; hm: nomark b, or (for in, not in) by with_unfolding_all rfl -/
theorem pe_cmpR {op : CmpOp} {r : R2} (ho : OpR X (compareOp op) r) (ha : PE X a ta) (hb : PE X b tb) (hm : behindInMarks op b = false) : PE X (.Compare a [op] [b] pos) (tOp r ta tb) := by
  intro pins s σ H Q I h
  exact wpAny_Compare1 (binT ha hb I h fun v u s2 x y H2 I2 rx ry q => ho pins s2 σ H2 x y v u Q I2 rx ry q) hm
/-- a reading of a value as a test -/
def tTest (t : TE) : TT := fun σ H Q => t σ H fun x H' => ∃ k, x = .bl k ∧ Q k H'
theorem pt_cmpR {op : CmpOp} {r : R2} (ho : OpR X (compareOp op) r) (ha : PE X a ta) (hb : PE X b tb) (hm : behindInMarks op b = false) : PT X (.Compare a [op] [b] pos) (tTest (tOp r ta tb)) := by
  intro pins s σ H Q I h
  refine wpAny_isTrue_Compare1 (thn (ha pins s σ H _ I h) fun v s1 ⟨x, H1, I1, r1, q1⟩ => thn (hb pins s1 σ H1 _ I1 q1) fun u s2 ⟨y, H2, I2, r2, q2⟩ =>
    thn (ho pins s2 σ H2 x y v u _ I2 r1 r2 q2) fun c s3 ⟨z, H3, I3, r3, k, e, q3⟩ => ?_) hm
  subst e
  cases r3
  exact wpAny_truthy_bool ⟨H3, I3, q3⟩
/-- a op1 b op2 c -/
def tChain (r r' : R2) (ta tb tc : TE) : TE := fun σ H Q => ta σ H fun x H1 => tb σ H1 fun y H2 => r x y H2 fun z H3 => ∃ k, z = .bl k ∧
  (if k = true then tc σ H3 fun w' H4 => r' y w' H4 Q else Q (.bl false) H3)
theorem pe_chain {op op' : CmpOp} {r r' : R2} (ho : OpR X (compareOp op) r) (ho' : OpR X (compareOp op') r') (ha : PE X a ta) (hb : PE X b tb) (hc : PE X c tc)
    (hm : lastMarks [op, op'] [b, c] = false := by with_unfolding_all rfl) : PE X (.Compare a [op, op'] [b, c] pos) (tChain r r' ta tb tc) := by
  intro pins s σ H Q I h
  refine Compare_chain (thn (ha pins s σ H _ I h) fun v s1 ⟨x, H1, I1, r1, q1⟩ => chain_link (thn (hb pins s1 σ H1 _ I1 q1) fun u s2 ⟨y, H2, I2, r2, q2⟩ =>
    thn (ho pins s2 σ H2 x y v u _ I2 r1 r2 q2) fun d s3 ⟨z, H3, I3, r3, k, e, q3⟩ => ?_)) hm
  subst e
  cases r3
  refine wpAny_truthy_bool ?_
  cases k with
  | false => exact ite_ff ⟨.bl false, H3, I3, rfl, q3⟩
  | true => exact ite_tt (chain_last (thn (hc pins s3 σ H3 _ I3 q3) fun w' s4 ⟨z', H4, I4, r4, q4⟩ => ho' pins s4 σ H4 y z' u w' Q I4 r2 r4 q4))
theorem pt_chain {op op' : CmpOp} {r r' : R2} (ho : OpR X (compareOp op) r) (ho' : OpR X (compareOp op') r') (ha : PE X a ta) (hb : PE X b tb) (hc : PE X c tc)
    (hm : lastMarks [op, op'] [b, c] = false := by with_unfolding_all rfl) : PT X (.Compare a [op, op'] [b, c] pos) (tTest (tChain r r' ta tb tc)) := by
  intro pins s σ H Q I h
  refine isTrue_chain (thn (ha pins s σ H _ I h) fun v s1 ⟨x, H1, I1, r1, q1⟩ => test_link (thn (hb pins s1 σ H1 _ I1 q1) fun u s2 ⟨y, H2, I2, r2, q2⟩ =>
    thn (ho pins s2 σ H2 x y v u _ I2 r1 r2 q2) fun d s3 ⟨z, H3, I3, r3, k, e, q3⟩ => ?_)) hm
  subst e
  cases r3
  refine wpAny_truthy_bool ?_
  cases k with
  | false =>
    obtain ⟨k', e', q'⟩ := q3
    cases e'
    exact ite_ff ⟨H3, I3, q'⟩
  | true =>
    refine ite_tt (test_last (thn (hc pins s3 σ H3 _ I3 q3) fun w' s4 ⟨z', H4, I4, r4, q4⟩ => thn (ho' pins s4 σ H4 y z' u w' _ I4 r2 r4 q4) fun d' s5 ⟨z2, H5, I5, r5, k2, e2, q5⟩ => ?_))
    subst e2
    cases r5
    exact wpAny_truthy_bool ⟨H5, I5, q5⟩

/-! ### truth -/
/-- a value's truth by the abstract heap -/
def TruV (K : PySem.W.Frag) (x : V) (H : Hp) (k : Bool) : Prop :=
  match x with
  | .non => k = false
  | .bl b => k = b
  | .int i => k = (i != 0)
  | .str y => y.length ≤ sizeLine ∧ k = ((y.length : Int) != 0)
  | .byt y => y.size ≤ sizeLine ∧ k = ((y.size : Int) != 0)
  | .ref p => (∃ xs, SqL K H p xs ∧ k = !xs.isEmpty) ∨ (∃ xs, SqT K H p xs ∧ k = !xs.isEmpty) ∨ ∃ kvs, H p = some (.dK kvs) ∧ k = !kvs.isEmpty
  | _ => False
theorem isEmpty_kv {κ : Type} {kvs : List (κ × V)} {vs : List (κ × Value)} (r : KV kvs vs) : (!vs.isEmpty) = !kvs.isEmpty := by
  cases r <;> rfl
theorem isEmpty_of {xs : List V} {its : List Value} (r : Vals xs its) : (!its.toArray.isEmpty) = !xs.isEmpty := by
  cases r <;> simp
theorem line63 : (sizeLine : Nat) < 2 ^ 63 := by rw [sizeLine_eq]; decide
theorem tru_ok : TruR X (fun x H Q => ∃ k, TruV X.K x H k ∧ Q k H) := by
  intro pins s σ H x v Q I rx h
  obtain ⟨k, e, q⟩ := h
  have hl := line63
  have hs : sizeLine = 16777216 := sizeLine_eq
  cases x with
  | non =>
    cases rx
    have e' : k = false := e
    subst e'
    exact truthy_none ⟨H, I, q⟩
  | bl b =>
    cases rx
    have e' : k = b := e
    subst e'
    exact wpAny_truthy_bool ⟨H, I, q⟩
  | int i =>
    obtain ⟨t, rfl⟩ := rx
    have e' : k = (i != 0) := e
    subst e'
    exact PySem.P.truthy_int ⟨H, I, q⟩
  | str y =>
    obtain ⟨t, rfl⟩ := rx
    obtain ⟨hy, e'⟩ : y.length ≤ sizeLine ∧ k = ((y.length : Int) != 0) := e
    subst e'
    exact PySem.P.truthy_str (by omega) ⟨H, I.tok _, q⟩
  | byt y =>
    obtain ⟨t, rfl⟩ := rx
    obtain ⟨hy, e'⟩ : y.size ≤ sizeLine ∧ k = ((y.size : Int) != 0) := e
    subst e'
    exact PySem.W.truthy_bytes (by omega) ⟨H, I.tok _, q⟩
  | ref p =>
    cases rx
    have e' : (∃ xs, SqL X.K H p xs ∧ k = !xs.isEmpty) ∨ (∃ xs, SqT X.K H p xs ∧ k = !xs.isEmpty) ∨ ∃ kvs, H p = some (.dK kvs) ∧ k = !kvs.isEmpty := e
    rcases e' with ⟨xs, hx, e'⟩ | ⟨xs, hx, e'⟩ | ⟨kvs, hx, e'⟩
    · subst e'
      obtain ⟨its, r, pl, hz⟩ := I.list hx
      have hlen := r.length
      exact wpAny_truthy_list pl.isList (by simp only [List.size_toArray]; omega) ⟨H, I.tok _, by rw [isEmpty_of r]; exact q⟩
    · subst e'
      obtain ⟨its, r, pl, hz⟩ := I.tuple hx
      have hlen := r.length
      exact truthy_tuple pl (by simp only [List.size_toArray]; omega) ⟨H, I.tok _, by rw [isEmpty_of r]; exact q⟩
    · subst e'
      obtain ⟨hz, hS, vs, r, m⟩ : kvs.length ≤ sizeLine ∧ (p == sysModules) = false ∧ ∃ vs, KV kvs vs ∧ s.heap.DictOf (mixKind X.prog X.w) p vs := I.hok p _ hx
      have hlen : kvs.length = vs.length := Paired.length r
      exact wpAny_truthy_dict hS m (by omega) ⟨H, I.tok _, by rw [isEmpty_kv r]; exact q⟩
  | _ => exact (show False from e).elim
/-- any expression whose test is its value's truth (a name, a call, a subscript, a field ..: he by fun _ => rfl) -/
theorem pt_truth (ha : PE X a ta) (he : ∀ whole, isTrue a X.env whole = (do let v ← whole; standAt a.pos; holding [v] (truthy v))) :
    PT X a (fun σ H Q => ta σ H fun x H' => ∃ k, TruV X.K x H' k ∧ Q k H') := by
  intro pins s σ H Q I h
  exact isTrue_plain (thn (ha pins s σ H _ I h) fun v s1 ⟨x, H1, I1, r1, q1⟩ => tru_ok pins s1 σ H1 x v Q I1 r1 q1) (he _)

/-! ### strs and bytes -/
theorem pe_byt {x : List UInt8} {k : Nat} : PE X (.Constant (.bytes x) k pos) (fun _ H Q => Q (.byt x.toArray) H) := fun _ _ _ H _ I h => PySem.W.Constant_bytes ⟨.byt x.toArray, H, I.tok _, ⟨_, rfl⟩, h⟩
theorem op_add_str : OpR X (binaryOp .Add) (fun x y H Q => ∃ i j, x = .str i ∧ y = .str j ∧ i.length + j.length ≤ sizeLine ∧ Q (.str (i ++ j)) H) := by
  intro pins s σ H x y v u Q I rx ry h
  obtain ⟨i, j, rfl, rfl, hz, q⟩ := h
  obtain ⟨t, rfl⟩ := rx
  obtain ⟨t', rfl⟩ := ry
  exact add_str (fun t' tk => ⟨.str (i ++ j), H, I.tok _, ⟨_, rfl⟩, q⟩) hz
theorem iop_add_str : OpR X (inplaceOp .Add) (fun x y H Q => ∃ i j, x = .str i ∧ y = .str j ∧ i.length + j.length ≤ sizeLine ∧ Q (.str (i ++ j)) H) := by
  intro pins s σ H x y v u Q I rx ry h
  obtain ⟨i, j, rfl, rfl, hz, q⟩ := h
  obtain ⟨t, rfl⟩ := rx
  obtain ⟨t', rfl⟩ := ry
  exact iadd_str (fun t' tk => ⟨.str (i ++ j), H, I.tok _, ⟨_, rfl⟩, q⟩) hz
theorem op_add_byt : OpR X (binaryOp .Add) (fun x y H Q => ∃ i j, x = .byt i ∧ y = .byt j ∧ i.size + j.size ≤ 16777216 ∧ Q (.byt (i ++ j)) H) := by
  intro pins s σ H x y v u Q I rx ry h
  obtain ⟨i, j, rfl, rfl, hz, q⟩ := h
  obtain ⟨t, rfl⟩ := rx
  obtain ⟨t', rfl⟩ := ry
  exact PySem.W.KBy.add_bytes hz (fun t' tk => ⟨.byt (i ++ j), H, I.tok _, ⟨_, rfl⟩, q⟩)

def PlainIxT (b : Expr) : Prop := ∀ o i, subscripted b false o i = operate [o, i] (getItem o i)
/-- s[i], 0 ≤ i < len -/
theorem pe_item_str (ha : PE X a ta) (hb : PE X b tb) (hs : PlainIxT b) :
    PE X (.Subscript a b pos) (tOp (fun x y H Q => ∃ z i c, x = .str z ∧ y = .int i ∧ 0 ≤ i ∧ i < 2 ^ 63 ∧ i < z.length ∧ z.cps[i.toNat]? = some c ∧ Q (.str ⟨#[c]⟩) H) ta tb) := by
  intro pins s σ H Q I h
  refine Subscript_ (binT ha hb I h fun v u s2 x y H2 I2 rx ry q => ?_)
  obtain ⟨z, i, c, rfl, rfl, h0, h63, h1, hc, q⟩ := q
  obtain ⟨t, rfl⟩ := rx
  obtain ⟨t', rfl⟩ := ry
  have e : seqIndex? i z.length = some i.toNat := PySem.StrLaws.seqIndex_nonneg h0 h1
  exact tail_any (typeIs_str s2 z t) slot_str_getitem.lookup (getItem_str (c := c) (by
    have e1 : decide (i < -(2 ^ 63 : Int)) = false := decide_eq_false (by omega)
    have e2 : decide (i ≥ 2 ^ 63) = false := decide_eq_false (by omega)
    rw [e1, e2] <;> rfl) (by rw [e]; exact hc) ⟨.str ⟨#[c]⟩, H2, I2.tok _, ⟨_, rfl⟩, q⟩) (hs _ _)
/-- b[i], 0 ≤ i < len -/
theorem pe_item_byt (ha : PE X a ta) (hb : PE X b tb) (hs : PlainIxT b) :
    PE X (.Subscript a b pos) (tOp (fun x y H Q => ∃ (z : List UInt8) (i : Int), x = .byt z.toArray ∧ y = .int i ∧ z.length ≤ sizeLine ∧ 0 ≤ i ∧ i < z.length ∧ Q (.int ((z.getD i.toNat 0).toNat : Nat)) H) ta tb) := by
  intro pins s σ H Q I h
  refine Subscript_ (binT ha hb I h fun v u s2 x y H2 I2 rx ry q => ?_)
  obtain ⟨z, i, rfl, rfl, hz, h0, h1, q⟩ := q
  obtain ⟨t, rfl⟩ := rx
  obtain ⟨t', rfl⟩ := ry
  have hl : sizeLine = 16777216 := sizeLine_eq
  exact tail_any (PySem.W.typeIs_bytes s2 z.toArray t) PySem.W.FB.slot_bytes_getitem.lookup (PySem.W.getItem_bytes (by omega) h0 h1 ⟨.int ((z.getD i.toNat 0).toNat : Nat), H2, I2.tok _, ⟨_, rfl⟩, q⟩) (hs _ _)

/-! ### scalar builtins, by CallR -/
theorem vals1 {x : V} {us : List Value} (r : Vals [x] us) : ∃ u, us = [u] ∧ RelV x u := by
  cases r with
  | cons r1 r2 => cases r2; exact ⟨_, rfl, r1⟩
theorem vals2 {x y : V} {us : List Value} (r : Vals [x, y] us) : ∃ u w', us = [u, w'] ∧ RelV x u ∧ RelV y w' := by
  cases r with
  | cons r1 r2 =>
    cases r2 with
    | cons r3 r4 => cases r4; exact ⟨_, _, rfl, r1, r3⟩
theorem call_abs : CallR X (.builtin "abs") (fun xs H Q => ∃ i, xs = [.int i] ∧ Q (.int (if i < 0 then -i else i)) H) := by
  intro pins s σ H xs us Q I r h
  obtain ⟨i, rfl, q⟩ := h
  obtain ⟨u, rfl, t, rfl⟩ := vals1 r
  exact call_abs_int fun u tk => ⟨.int (if i < 0 then -i else i), H, I.tok _, ⟨_, rfl⟩, q⟩
theorem call_max2 (hc : X.calm = true) : CallR X (.builtin "max") (fun xs H Q => ∃ i j, xs = [.int i, .int j] ∧ Q (.int (if j > i then j else i)) H) := by
  intro pins s σ H xs us Q I r h
  obtain ⟨i, j, rfl, q⟩ := h
  obtain ⟨u, w', rfl, ⟨t, rfl⟩, ⟨t', rfl⟩⟩ := vals2 r
  refine max_two_ints (I.ok.hd hc) fun h' tk k => ⟨_, H, I.kept k, ?_, q⟩
  by_cases hj : j > i
  · rw [if_pos hj, if_pos hj]; exact ⟨_, rfl⟩
  · rw [if_neg hj, if_neg hj]; exact ⟨_, rfl⟩
theorem call_min2 (hc : X.calm = true) : CallR X (.builtin "min") (fun xs H Q => ∃ i j, xs = [.int i, .int j] ∧ Q (.int (if j < i then j else i)) H) := by
  intro pins s σ H xs us Q I r h
  obtain ⟨i, j, rfl, q⟩ := h
  obtain ⟨u, w', rfl, ⟨t, rfl⟩, ⟨t', rfl⟩⟩ := vals2 r
  refine min_two_ints (I.ok.hd hc) fun h' tk k => ⟨_, H, I.kept k, ?_, q⟩
  by_cases hj : j < i
  · rw [if_pos hj, if_pos hj]; exact ⟨_, rfl⟩
  · rw [if_neg hj, if_neg hj]; exact ⟨_, rfl⟩
theorem call_int1 : CallR X (.type "int") (fun xs H Q => (∃ i, xs = [.int i] ∧ Q (.int i) H) ∨ ∃ k, xs = [.bl k] ∧ Q (.int (if k then 1 else 0)) H) := by
  intro pins s σ H xs us Q I r h
  rcases h with ⟨i, rfl, q⟩ | ⟨k, rfl, q⟩
  · obtain ⟨u, rfl, t, rfl⟩ := vals1 r
    exact call_int_int ⟨.int i, H, I, ⟨_, rfl⟩, q⟩
  · obtain ⟨u, rfl, r1⟩ := vals1 r
    cases r1
    exact call_int_bool ⟨.int (if k then 1 else 0), H, I.tok _, ⟨_, rfl⟩, q⟩
theorem call_bool1 : CallR X (.type "bool") (fun xs H Q => (∃ i, xs = [.int i] ∧ Q (.bl (i != 0)) H) ∨ ∃ k, xs = [.bl k] ∧ Q (.bl k) H) := by
  intro pins s σ H xs us Q I r h
  rcases h with ⟨i, rfl, q⟩ | ⟨k, rfl, q⟩
  · obtain ⟨u, rfl, t, rfl⟩ := vals1 r
    exact call_bool_int ⟨.bl (i != 0), H, I, rfl, q⟩
  · obtain ⟨u, rfl, r1⟩ := vals1 r
    cases r1
    exact call_bool_bool ⟨.bl k, H, I, rfl, q⟩
theorem call_str_int : CallR X (.type "str") (fun xs H Q => ∃ i, xs = [.int i] ∧ i.natAbs.log2 < 1920 ∧ Q (.str (toString i)) H) := by
  intro pins s σ H xs us Q I r h
  obtain ⟨i, rfl, hz, q⟩ := h
  obtain ⟨u, rfl, t, rfl⟩ := vals1 r
  exact PySem.P.str_of_int hz ⟨.str _, H, I.tok _, ⟨_, rfl⟩, q⟩
theorem call_ord : CallR X (.builtin "ord") (fun xs H Q => ∃ x, xs = [.str x] ∧ x.length = 1 ∧ Q (.int (x.cps.getD 0 0 : Nat)) H) := by
  intro pins s σ H xs us Q I r h
  obtain ⟨x, rfl, hz, q⟩ := h
  obtain ⟨u, rfl, t, rfl⟩ := vals1 r
  exact ord_of_one hz ⟨.int _, H, I.tok _, ⟨_, rfl⟩, q⟩
theorem call_chr : CallR X (.builtin "chr") (fun xs H Q => ∃ i, xs = [.int i] ∧ 0 ≤ i ∧ i ≤ 1114111 ∧ Q (.str ⟨#[i.toNat]⟩) H) := by
  intro pins s σ H xs us Q I r h
  obtain ⟨i, rfl, h0, h1, q⟩ := h
  obtain ⟨u, rfl, t, rfl⟩ := vals1 r
  exact chr_of_range h0 h1 ⟨.str _, H, I.tok _, ⟨_, rfl⟩, q⟩
/-- len of a str, a bytes, a list, a tuple -/
def LenV (K : PySem.W.Frag) (x : V) (H : Hp) (n : Nat) : Prop :=
  match x with
  | .str y => y.length ≤ sizeLine ∧ n = y.length
  | .byt y => y.size ≤ sizeLine ∧ n = y.size
  | .ref p => (∃ xs, SqL K H p xs ∧ n = xs.length) ∨ ∃ xs, SqT K H p xs ∧ n = xs.length
  | _ => False
theorem call_len : CallR X (.builtin "len") (fun xs H Q => ∃ x n, xs = [x] ∧ LenV X.K x H n ∧ Q (.int n) H) := by
  intro pins s σ H xs us Q I r h
  obtain ⟨x, n, rfl, e, q⟩ := h
  obtain ⟨u, rfl, rx⟩ := vals1 r
  have hl := line63
  have hs : sizeLine = 16777216 := sizeLine_eq
  cases x with
  | str y =>
    obtain ⟨t, rfl⟩ := rx
    obtain ⟨hy, e'⟩ : y.length ≤ sizeLine ∧ n = y.length := e
    subst e'
    exact len_str (by omega) ⟨.int _, H, I.tok _, ⟨_, rfl⟩, q⟩
  | byt y =>
    obtain ⟨t, rfl⟩ := rx
    obtain ⟨hy, e'⟩ : y.size ≤ sizeLine ∧ n = y.size := e
    subst e'
    exact PySem.W.len_bytes (by omega) ⟨.int _, H, I.tok _, ⟨_, rfl⟩, q⟩
  | ref p =>
    cases rx
    have e' : (∃ xs, SqL X.K H p xs ∧ n = xs.length) ∨ ∃ xs, SqT X.K H p xs ∧ n = xs.length := e
    rcases e' with ⟨xs, hx, e'⟩ | ⟨xs, hx, e'⟩
    · subst e'
      obtain ⟨its, r', pl, hz⟩ := I.list hx
      have hlen := r'.length
      exact Calls.call_len_list pl.isList (by simp only [List.size_toArray]; omega) ⟨.int xs.length, H, I.tok _, ⟨_, by simp only [List.size_toArray]; rw [hlen]⟩, q⟩
    · subst e'
      obtain ⟨its, r', pl, hz⟩ := I.tuple hx
      have hlen := r'.length
      exact len_tuple pl (by simp only [List.size_toArray]; omega) ⟨.int xs.length, H, I.tok _, ⟨_, by simp only [List.size_toArray]; rw [hlen]⟩, q⟩
  | _ => exact (show False from e).elim
/-- divmod: a new tuple -/
theorem call_divmod : CallR X (.builtin "divmod") (fun xs H Q => ∃ i j, xs = [.int i, .int j] ∧ CDiv i j ∧ ∀ p, H p = none → Q (.ref p) (upd H p (.tup [.int (i / j), .int (i % j)]))) := by
  intro pins s σ H xs us Q I r h
  obtain ⟨i, j, rfl, ⟨h1, h2⟩, q⟩ := h
  obtain ⟨u, w', rfl, ⟨t, rfl⟩, ⟨t', rfl⟩⟩ := vals2 r
  refine divmod_int (by omega) ?_ (.inl (PyProof.noPylong_small (by omega)))
  rw [Int.fdiv_eq_ediv_of_nonneg i (by omega), Int.fmod_eq_emod_of_nonneg i (by omega)]
  have hn : H s.heap.objs.size = none := I.hok.fresh (Nat.le_refl _)
  refine ⟨.ref s.heap.objs.size, _, ?_, rfl, q _ hn⟩
  refine I.laid (fun b o e => Heap.get?_push_of_some _ e) (Nat.le_refl _) ⟨by simp only [List.length_cons, List.length_nil]; rw [sizeLine_eq]; decide, [.int (i / j) s.toks, .int (i % j) (s.toks + 1)], .cons ⟨_, rfl⟩ (.cons ⟨_, rfl⟩ .nil), ?_⟩
  exact ⟨_, Heap.get?_push_size s.heap rfl, rfl, 0, rfl⟩
end
end L2

namespace L2
open PySem PySem.Spec PyProof.Rows

/-! ### an instance, its attributes a map -/
structure ObjM (h : Heap) (x dx C : Addr) (mA : Str → Option Value) : Prop where
  obj : h.get? x = some (PySem.W.instObj C dx)
  ns : h.Ns1 dx mA
  ne : dx ≠ x

theorem lookIn_ns {h : Heap} {dx : Addr} {mA : Str → Option Value} (n : h.Ns1 dx mA) : ∃ od, h.get? dx = some od ∧ ∀ name, PySem.W.lookIn name od = some (mA name) := by
  obtain ⟨o, es, ep, ho, hd, hk, _, hm⟩ := n
  refine ⟨o, ho, fun name => ?_⟩
  have e := hm name
  unfold nsFind findBy at e
  rw [← Array.find?_toList] at e
  unfold PySem.W.lookIn
  rw [hd]
  dsimp only
  split
  · rename_i y q
    rw [q] at e
    exact congrArg some e
  · rename_i q
    rw [q] at e
    have a : es.toList.any (·.refKey) = false := by
      rw [List.any_eq_false]
      intro y hy
      obtain ⟨z, t, hkey⟩ := hk y (Array.mem_toList_iff.mp hy)
      simp [DictEntry.refKey, hkey]
    have a' : ¬ es.toList.any (·.refKey) = true := by rw [a]; exact Bool.false_ne_true
    rw [if_neg a']
    exact congrArg some e

theorem ObjM.look {h : Heap} {x dx C : Addr} {mA : Str → Option Value} (I : ObjM h x dx C mA) : ∃ od, PySem.W.InstAt h x (PySem.W.instObj C dx) C (some od) ∧ ∀ name, PySem.W.lookIn name od = some (mA name) :=
  let ⟨od, ho, hl⟩ := lookIn_ns I.ns
  ⟨od, ⟨I.obj, rfl, rfl, ho⟩, hl⟩

section
variable {prog : Program} {w : World} {A : Around} {E : Value → Shared → Prop} {s : Shared} {K : PySem.W.Frag} {x dx C f : Addr} {mA : Str → Option Value} {name : Str} {v : Value}

theorem get_map {expr : Bool} {Q : Value → Shared → Prop} (X : K.In s.heap) (I : ObjM s.heap x dx C mA) (hg : PySem.W.plainGet K C name = true) (hh : PySem.W.hasDictIn K C = true)
    (ha : PySem.W.findIn K (.ref C) name = some none) (hv : mA name = some v) (hv' : PySem.W.handedIn v = true) (h : Q v { s with toks := s.toks + 1 }) :
    wpAny (model prog w) A (getAttr (.ref x) name expr) Q E s := by
  obtain ⟨od, J, hl⟩ := I.look
  exact PySem.W.get_value X J (PySem.W.plainGet_of hg).1 (PySem.W.findObj_own hh ha rfl (by rw [hl, hv])) hv' h

theorem get_const {expr : Bool} {a : Value} {Q : Value → Shared → Prop} (X : K.In s.heap) (I : ObjM s.heap x dx C mA) (hg : PySem.W.plainGet K C name = true) (hh : PySem.W.hasDictIn K C = true)
    (ha : PySem.W.findIn K (.ref C) name = some (some a)) (hn : PySem.W.specialIn K a "__get__" = some none) (hc : PySem.W.copiedNames.contains name = false) (hv : mA name = none) (hv' : PySem.W.handedIn a = true)
    (h : Q a { s with toks := s.toks + 1 }) : wpAny (model prog w) A (getAttr (.ref x) name expr) Q E s := by
  obtain ⟨od, J, hl⟩ := I.look
  exact PySem.W.get_value X J (PySem.W.plainGet_of hg).1 (PySem.W.findObj_cls hh ha hn hv' hc (by rw [hl, hv])) hv' h

theorem get_meth {pl : Sem Bool} {Q : Value × List Value → Shared → Prop} (X : K.In s.heap) (I : ObjM s.heap x dx C mA) (hg : PySem.W.plainGet K C name = true)
    (hf : PySem.W.findIn K (.ref C) name = some (some (.ref f))) (ht : PySem.W.isFn K (.ref f) = true) (hv : mA name = none) (h : Q (.ref f, [.ref x]) s) :
    wpAny (model prog w) A (getMethod (.ref x) name pl) Q E s := by
  obtain ⟨od, J, hl⟩ := I.look
  exact PySem.W.method_fn X J (PySem.W.plainGet_of hg).1 (PySem.W.plainGet_of hg).2 hf (beq_iff_eq.mp ht) (by show (PySem.W.lookIn name od).map (·.isSome) = some false; rw [hl, hv]; rfl) h

theorem set_map {ns : List Str} {Q : Unit → Shared → Prop} (X : K.In s.heap) (I : ObjM s.heap x dx C mA)
    (hs : PySem.W.findIn K (.ref C) "__setattr__" = some (some (.builtin "object.__setattr__"))) (hp : PySem.W.plainOver K C = true) (ht : PySem.W.takerIn K C name = some none) (hh : PySem.W.hasDictIn K C = true)
    (hw : PySem.Within mA ns) (hsz : ns.length ≤ sizeLine)
    (h : ∀ h', ObjM h' x dx C (fun y => if y = name then some v else mA y) → Heap.SameBut dx s.heap h' → Q () { s with heap := h', toks := s.toks + 2 }) :
    wpAny (model prog w) A (setAttr (.ref x) name v) Q E s := by
  obtain ⟨od, J, hl⟩ := I.look
  refine PySem.W.set_plain X J hs (PySem.W.osa_open (s := { s with toks := s.toks + 1 }) (r := none) X J hp ht fun b => ?_)
  obtain ⟨cd, hc, hd'⟩ := PySem.W.any_some hh
  have hx : s.heap.get? x = some ⟨.ref C, some dx, .plain, #[]⟩ := I.obj
  refine wpAny_bind (wpAny_pure (wpAny_bind (wpAny_bind (wpAny_loadPart hx (wpAny_bind (PySem.W.Looks.here (s := { s with toks := s.toks + 1 }) (PySem.W.looks_clsIn X hc) ?_))))))
  rw [hd']
  refine wpAny_pure (a := some dx) (wpAny_bind (wpAny_pure (wpAny_bind ?_)))
  refine wpAny_nsSet1 (s := { s with toks := s.toks + 1 }) I.ns fun h' hn2 hs2 => ?_
  obtain ⟨oD, esD, epD, hoD, hdD, hcD⟩ := hn2.count (PySem.Within.cons name v hw)
  refine wpAny_bind (wpAny_lookBehind hoD (by rw [hdD]; exact pastItsLine_dict (Nat.le_trans hcD (by rw [List.length_cons]; omega))) ?_)
  exact wpAny_pure (h _ ⟨(hs2.2 _ (Ne.symm I.ne)).trans I.obj, hn2, I.ne⟩ hs2)

/-- C(..): the dict at the heap's end, the instance behind it; then its __init__ -/
theorem make_map {R : Result → Shared → Prop} {vs : List Value} {kw : List (Str × Value)} (X : K.In s.heap) (hm : PySem.W.makesIn K C = true)
    (hi : PySem.W.findIn K (.ref C) "__init__" = some (some (.ref f))) (hf : PySem.W.typeIn K (.ref f) = some (.type "function"))
    (h : codeAny (model prog w) (A.under (.builtin "type.__call__" ⟨.ref C :: vs, kw⟩)) (.call (.ref f) ⟨.ref (s.heap.objs.size + 1) :: vs, kw⟩) (PySem.W.InitBack (s.heap.objs.size + 1) R)
      { s with heap := (s.heap.push PySem.W.emptyDict).push (PySem.W.instObj C s.heap.objs.size) }) :
    codeAny (model prog w) A (.call (.ref C) ⟨vs, kw⟩) R s := by
  obtain ⟨hh, g, d, t, os⟩ := s
  exact PySem.W.make_core (PySem.W.makes_of X hm) (PySem.W.looks_findIn X hi) (fun self => PySem.W.bind_fn X self hf) (.inl rfl) h
/-- C() where there is no __init__ but object's -/
theorem make_map0 {R : Result → Shared → Prop} (X : K.In s.heap) (hm : PySem.W.makesIn K C = true)
    (hi : PySem.W.findIn K (.ref C) "__init__" = some (some (.builtin "object.__init__")))
    (hb : ∀ self, PySem.W.Looks (model prog w) s.heap (bindSpecial (.builtin "object.__init__") self) (.builtin "object.__init__", [self]))
    (h : codeAny (model prog w) (A.under (.builtin "type.__call__" ⟨[.ref C], []⟩)) (.call (.builtin "object.__init__") ⟨[.ref (s.heap.objs.size + 1)], []⟩) (PySem.W.InitBack (s.heap.objs.size + 1) R)
      { s with heap := (s.heap.push PySem.W.emptyDict).push (PySem.W.instObj C s.heap.objs.size) }) :
    codeAny (model prog w) A (.call (.ref C) ⟨[], []⟩) R s := by
  obtain ⟨hh, g, d, t, os⟩ := s
  exact PySem.W.make_core (PySem.W.makes_of X hm) (PySem.W.looks_findIn X hi) hb (.inr ⟨rfl, rfl⟩) h
end

/-! ### the attributes as a list of pairs -/
def putF (f : Str) (v : V) : List (Str × V) → List (Str × V)
  | [] => [(f, v)]
  | (g, x) :: r => if g = f then (g, v) :: r else (g, x) :: putF f v r
theorem lookup_putF (f g : Str) (v : V) : ∀ fs : List (Str × V), (putF f v fs).lookup g = if g = f then some v else fs.lookup g
  | [] => by
    show List.lookup g [(f, v)] = _
    by_cases h : g = f
    · have hb : (g == f) = true := beq_iff_eq.mpr h
      simp only [List.lookup, hb, if_pos h]
    · have hb : (g == f) = false := beq_eq_false_iff_ne.mpr h
      simp only [List.lookup, hb, if_neg h]
  | (k, x) :: r => by
    have ih := lookup_putF f g v r
    rw [show putF f v ((k, x) :: r) = (if k = f then (k, v) :: r else (k, x) :: putF f v r) from rfl]
    by_cases hk : k = f
    · rw [if_pos hk]
      by_cases h : g = k
      · have hb : (g == k) = true := beq_iff_eq.mpr h
        simp only [List.lookup, hb, if_pos (h.trans hk)]
      · have hb : (g == k) = false := beq_eq_false_iff_ne.mpr h
        simp only [List.lookup, hb, if_neg (fun e : g = f => h (e.trans hk.symm))]
    · rw [if_neg hk]
      by_cases h : g = k
      · have hb : (g == k) = true := beq_iff_eq.mpr h
        simp only [List.lookup, hb, if_neg (fun e : g = f => hk (h.symm.trans e))]
      · have hb : (g == k) = false := beq_eq_false_iff_ne.mpr h
        simp only [List.lookup, hb]
        exact ih
theorem keys_putF (f : Str) (v : V) : ∀ fs : List (Str × V), f ∈ (putF f v fs).map (·.1) ∧ ∀ g, g ∈ fs.map (·.1) → g ∈ (putF f v fs).map (·.1)
  | [] => ⟨by simp [putF], fun g h => by simp at h⟩
  | (k, x) :: r => by
    obtain ⟨i1, i2⟩ := keys_putF f v r
    rw [show putF f v ((k, x) :: r) = (if k = f then (k, v) :: r else (k, x) :: putF f v r) from rfl]
    by_cases hk : k = f
    · rw [if_pos hk]
      subst hk
      exact ⟨by simp, fun g h => by simpa using h⟩
    · rw [if_neg hk]
      refine ⟨?_, fun g h => ?_⟩
      · rw [List.map_cons]
        exact List.mem_cons_of_mem _ i1
      · rw [List.map_cons] at h ⊢
        rcases List.mem_cons.mp h with e | e
        · exact List.mem_cons.mpr (.inl e)
        · exact List.mem_cons_of_mem _ (i2 g e)
theorem length_putF (f : Str) (v : V) : ∀ fs : List (Str × V), (putF f v fs).length ≤ fs.length + 1
  | [] => by simp [putF]
  | (k, x) :: r => by
    have ih := length_putF f v r
    rw [show putF f v ((k, x) :: r) = (if k = f then (k, v) :: r else (k, x) :: putF f v r) from rfl]
    by_cases hk : k = f
    · rw [if_pos hk, List.length_cons, List.length_cons]; omega
    · rw [if_neg hk, List.length_cons, List.length_cons]; omega

theorem RelO.some_of {v : V} {o : Option Value} (r : RelO (some v) o) : ∃ u, o = some u ∧ RelV v u := by
  cases o with
  | none => exact (show False from r).elim
  | some u => exact ⟨u, rfl, r⟩
theorem RelO.none_of {o : Option Value} (r : RelO none o) : o = none := by
  cases o with
  | none => rfl
  | some u => exact (show False from r).elim
theorem handed_of {v : V} {u : Value} (r : RelV v u) : PySem.W.handedIn u = true := by
  cases v with
  | non => cases (show u = Value.none from r); rfl
  | bl b => cases (show u = Value.bool b from r); rfl
  | int i => obtain ⟨t, e⟩ := (show ∃ t, u = Value.int i t from r); cases e; rfl
  | str x => obtain ⟨t, e⟩ := (show ∃ t, u = Value.str x t from r); cases e; rfl
  | byt b => obtain ⟨t, e⟩ := (show ∃ t, u = Value.bytes b t from r); cases e; rfl
  | flt b => obtain ⟨t, e⟩ := (show ∃ t, u = Value.float b t from r); cases e; rfl
  | ref a => cases (show u = Value.ref a from r); rfl
  | ty n => cases (show u = Value.type n from r); rfl

section
variable {P : Program} {w : World} {H H' : Hp} {h h' : Heap} {a C dx : Addr} {fs fs' : List (Str × V)}
theorem ins_get (hok : HOk P w H h) (e : H a = some (.ins C dx fs)) : ∃ mA, ObjM h a dx C mA ∧ (∀ f, RelO (fs.lookup f) (mA f)) ∧ PySem.Within mA (fs.map (·.1)) ∧ fs.length ≤ 1000 ∧ H dx = some (.own a) := by
  obtain ⟨d, z, ne, ob, mA, n, r, q⟩ := (show ObjOk P w H h a (.ins C dx fs) from hok a _ e)
  exact ⟨mA, ⟨ob, n, ne⟩, r, q, z, d⟩
end

/-! ### what of the text a class must have -/
structure Cls (K : PySem.W.Frag) (C : Addr) : Prop where
  pg : PySem.W.plainGet K C Str.empty = true
  hd : PySem.W.hasDictIn K C = true
  po : PySem.W.plainOver K C = true
  sa : PySem.W.findIn K (.ref C) "__setattr__" = some (some (.builtin "object.__setattr__"))
theorem Cls.get {K : PySem.W.Frag} {C : Addr} (c : Cls K C) (f : Str) : PySem.W.plainGet K C f = true := c.pg
/-- no class of it has the name -/
def NoAttr (K : PySem.W.Frag) (C : Addr) (f : Str) : Prop := PySem.W.findIn K (.ref C) f = some none
theorem NoAttr.taker {K : PySem.W.Frag} {C : Addr} {f : Str} (n : NoAttr K C f) : PySem.W.takerIn K C f = some none := by
  unfold PySem.W.takerIn
  rw [show PySem.W.findIn K (.ref C) f = some none from n]
  rfl
/-- a constant of the class -/
structure Con (K : PySem.W.Frag) (C : Addr) (f : Str) (v : V) (u : Value) : Prop where
  at_ : PySem.W.findIn K (.ref C) f = some (some u)
  rel : RelV v u
  get : PySem.W.specialIn K u "__get__" = some none
  cp : PySem.W.copiedNames.contains f = false
/-- a method: a plain def of the class or of one above it -/
structure Meth (K : PySem.W.Frag) (C : Addr) (m : Str) (f : Addr) : Prop where
  at_ : PySem.W.findIn K (.ref C) m = some (some (.ref f))
  fn : PySem.W.isFn K (.ref f) = true
  kp : PySem.W.keepIn K (.ref f) = true

section
variable {X : Cx} {pins : List (Addr × Obj)} {σ : St} {H : Hp} {s : Shared} {a C dx : Addr} {fs : List (Str × V)} {f : Str} {v : V} {A : Around} {E : Value → Shared → Prop}

theorem getattr_ok {b : Bool} {Q : Value → Shared → Prop} (I : Inv X pins σ H s) (e : H a = some (.ins C dx fs)) (c : Cls X.K C) (n : NoAttr X.K C f) (l : fs.lookup f = some v)
    (h : ∀ u s', Inv X pins σ H s' → RelV v u → Q u s') : wpAny (model X.prog X.w) A (getAttr (.ref a) f b) Q E s := by
  obtain ⟨mA, O, r, _, _, _⟩ := ins_get I.hok e
  obtain ⟨u, hu, ru⟩ := RelO.some_of (v := v) (o := mA f) (by rw [← l]; exact r f)
  exact get_map I.kIn O (c.get f) c.hd n hu (handed_of ru) (h u _ (I.tok _) ru)

theorem getcon_ok {b : Bool} {u : Value} {Q : Value → Shared → Prop} (I : Inv X pins σ H s) (e : H a = some (.ins C dx fs)) (c : Cls X.K C) (k : Con X.K C f v u) (l : fs.lookup f = none)
    (h : ∀ s', Inv X pins σ H s' → Q u s') : wpAny (model X.prog X.w) A (getAttr (.ref a) f b) Q E s := by
  obtain ⟨mA, O, r, _, _, _⟩ := ins_get I.hok e
  have hn : mA f = none := RelO.none_of (by rw [← l]; exact r f)
  exact get_const I.kIn O (c.get f) c.hd k.at_ k.get k.cp hn (handed_of k.rel) (h _ (I.tok _))

theorem getmeth_ok {m : Str} {g : Addr} {pl : Sem Bool} {Q : Value × List Value → Shared → Prop} (I : Inv X pins σ H s) (e : H a = some (.ins C dx fs)) (c : Cls X.K C) (k : Meth X.K C m g) (l : fs.lookup m = none)
    (h : Q (.ref g, [.ref a]) s) : wpAny (model X.prog X.w) A (getMethod (.ref a) m pl) Q E s := by
  obtain ⟨mA, O, r, _, _, _⟩ := ins_get I.hok e
  have hn : mA m = none := RelO.none_of (by rw [← l]; exact r m)
  exact get_meth I.kIn O (c.get m) k.at_ k.fn hn h

theorem setattr_ok {y : V} {u : Value} {Q : Unit → Shared → Prop} (I : Inv X pins σ H s) (e : H a = some (.ins C dx fs)) (c : Cls X.K C) (n : NoAttr X.K C f) (hl : fs.length < 1000) (ry : RelV y u)
    (h : ∀ s', Inv X pins σ (upd H a (.ins C dx (putF f y fs))) s' → Q () s') : wpAny (model X.prog X.w) A (setAttr (.ref a) f u) Q E s := by
  obtain ⟨mA, O, r, wi, _, ho⟩ := ins_get I.hok e
  have hz : (fs.map (·.1)).length ≤ sizeLine := by rw [List.length_map, sizeLine_eq]; omega
  refine set_map I.kIn O c.sa c.po n.taker c.hd wi hz fun h' O' sb => h _ ?_
  have hd : ∃ o, h'.get? dx = some o := let ⟨o, _, _, e', _⟩ := O'.ns; ⟨o, e'⟩
  refine I.write (x := a) (e := dx) (by rw [e]; exact True.intro) (.inr ho) (fun b q hb z => (sb.2 b hb).trans z) hd ?_
  refine ⟨by rw [upd_ne O.ne]; exact ho, ?_, O.ne, O'.obj, _, O'.ns, fun g => ?_, fun g hg => ?_⟩
  · have := length_putF f y fs; omega
  · show RelO ((putF f y fs).lookup g) (if g = f then some u else mA g)
    rw [lookup_putF]
    by_cases q : g = f
    · rw [if_pos q, if_pos q]; exact ry
    · rw [if_neg q, if_neg q]; exact r g
  · by_cases q : g = f
    · rw [q]; exact (keys_putF f y fs).1
    · refine (keys_putF f y fs).2 g (wi g fun z => hg ?_)
      show (if g = f then some u else mA g) = none
      rw [if_neg q]; exact z

/-- a new instance, tracked, without attributes -/
theorem Inv.made (I : Inv X pins σ H s) : Inv X pins σ (upd (upd H s.heap.objs.size (.own (s.heap.objs.size + 1))) (s.heap.objs.size + 1) (.ins C s.heap.objs.size []))
    { s with heap := (s.heap.push PySem.W.emptyDict).push (PySem.W.instObj C s.heap.objs.size) } := by
  have e1 : (s.heap.push PySem.W.emptyDict).get? s.heap.objs.size = some PySem.W.emptyDict := Heap.get?_push_size s.heap rfl
  have e2 : ((s.heap.push PySem.W.emptyDict).push (PySem.W.instObj C s.heap.objs.size)).get? (s.heap.objs.size + 1) = some (PySem.W.instObj C s.heap.objs.size) := by
    have := Heap.get?_push_size (s.heap.push PySem.W.emptyDict) (o := PySem.W.instObj C s.heap.objs.size) rfl
    rwa [Heap.size_push] at this
  have e3 : (s.heap.push PySem.W.emptyDict).Ns s.heap.objs.size (fun _ => none) := ⟨PySem.W.emptyDict, #[], _, e1, rfl, (fun e he => absurd he (by simp)), fun _ => rfl⟩
  have I1 := I.laid (a := s.heap.objs.size) (o := .own (s.heap.objs.size + 1)) (h' := s.heap.push PySem.W.emptyDict) (t' := s.toks) (fun b u q => Heap.get?_push_of_some _ q) (Nat.le_refl _) ⟨_, e1⟩
  refine I1.laid (a := s.heap.objs.size + 1) (o := .ins C s.heap.objs.size []) (t' := s.toks) (fun b u q => Heap.get?_push_of_some _ q) (Nat.le_of_eq (Heap.size_push _ _)) ?_
  have ne : s.heap.objs.size ≠ s.heap.objs.size + 1 := Nat.ne_of_lt (Nat.lt_succ_self _)
  refine ⟨by rw [upd_ne ne, upd_same], Nat.zero_le _, ne, e2, fun _ => none, (Heap.Ns1.of_empty e3).at fun o q => Heap.get?_push_of_some _ q, fun _ => True.intro, fun y hy => absurd rfl hy⟩

/-- e.f where nothing but the object is asked: through attributeBase (super) and the last hold -/
theorem attr_of {prog : Program} {w : World} {env : Env} {e : Expr} {f : Str} {pos : Pos} {s : Shared} {Q : Value → Shared → Prop} (hb : attributeBase e f env (eval e env) = eval e env)
    (h : wpAny (model prog w) A (eval e env) (fun o s₁ => wpAny (model prog w) A (getAttr o f true) Q E s₁) E s) : wpAny (model prog w) A (eval (.Attribute e f pos) env) Q E s :=
  Attribute_any_ h (by rw [arm_eval_Attribute, hb])
end

/-! ### readings and rules -/
/-- e.f, an attribute of the instance -/
def tFld (K : PySem.W.Frag) (ta : TE) (f : Str) : TE := fun σ H Q => ta σ H fun x H1 => ∃ a C dx fs v, x = .ref a ∧ H1 a = some (.ins C dx fs) ∧ Cls K C ∧ NoAttr K C f ∧ fs.lookup f = some v ∧ Q v H1
/-- e.f, a constant of the class -/
def tCon (K : PySem.W.Frag) (ta : TE) (f : Str) : TE := fun σ H Q => ta σ H fun x H1 => ∃ a C dx fs v u, x = .ref a ∧ H1 a = some (.ins C dx fs) ∧ Cls K C ∧ Con K C f v u ∧ fs.lookup f = none ∧ Q v H1
/-- e.f = value -/
def sFld (K : PySem.W.Frag) (ta tv : TE) (f : Str) : TS := fun D σ H => tv σ H fun y H1 => ta σ H1 fun x H2 => ∃ a C dx fs, x = .ref a ∧ H2 a = some (.ins C dx fs) ∧ Cls K C ∧ NoAttr K C f ∧ fs.length < 1000 ∧
  D.nx σ (upd H2 a (.ins C dx (putF f y fs)))
/-- an augmented operator on two values -/
def InOp (X : Cx) (op : Operator) (rd : V → V → Hp → VK → Prop) : Prop :=
  ∀ (pins : List (Addr × Obj)) (s : Shared) (σ : St) (H : Hp) (x y : V) (u v : Value) (Q : VK), Inv X pins σ H s → RelV x u → RelV y v → rd x y H Q → wpAny (model X.prog X.w) X.A (inplaceOp op u v) (EP X pins σ Q) X.xe s
/-- e.f op= value -/
def sFldAug (K : PySem.W.Frag) (ta tv : TE) (rd : V → V → Hp → VK → Prop) (f : Str) : TS := fun D σ H => ta σ H fun x H1 => ∃ a C dx fs v, x = .ref a ∧ H1 a = some (.ins C dx fs) ∧ Cls K C ∧ NoAttr K C f ∧ fs.lookup f = some v ∧
  tv σ H1 fun y H2 => rd v y H2 fun z H3 => ∃ dx' fs', H3 a = some (.ins C dx' fs') ∧ fs'.length < 1000 ∧ D.nx σ (upd H3 a (.ins C dx' (putF f z fs')))

section
variable {X : Cx} {o e value : Expr} {f : Str} {pos pos' tpos : Pos} {ta tv : TE}
theorem pe_fld (he : PE X e ta) (hb : attributeBase e f X.env (eval e X.env) = eval e X.env) : PE X (.Attribute e f pos) (tFld X.K ta f) := by
  intro pins s σ H Q I h
  refine attr_of hb (thn (he pins s σ H _ I h) fun u s1 ⟨x, H1, I1, rx, a, C, dx, fs, v, ex, ea, c, n, l, q⟩ => ?_)
  subst ex
  obtain rfl : u = Value.ref a := rx
  exact getattr_ok I1 ea c n l fun u' s2 I2 ru => ⟨v, H1, I2, ru, q⟩
theorem pe_con (he : PE X e ta) (hb : attributeBase e f X.env (eval e X.env) = eval e X.env) : PE X (.Attribute e f pos) (tCon X.K ta f) := by
  intro pins s σ H Q I h
  refine attr_of hb (thn (he pins s σ H _ I h) fun u s1 ⟨x, H1, I1, rx, a, C, dx, fs, v, u0, ex, ea, c, k, l, q⟩ => ?_)
  subst ex
  obtain rfl : u = Value.ref a := rx
  exact getcon_ok I1 ea c k l fun s2 I2 => ⟨v, H1, I2, k.rel, q⟩
theorem ps_fld (ha : PE X o ta) (hv : PE X value tv) (hs : swapsWith value (some (.Attribute o f pos')) pos.line X.env = pure false) : PS X (.Assign [.Attribute o f pos'] value pos) (sFld X.K ta tv f) := by
  intro pins s σ H D I h
  refine plainObj_wpAny_Assign_Attribute (thn (hv pins s σ H _ I h) fun u s1 ⟨y, H1, I1, ry, q⟩ => thn (ha pins s1 σ H1 _ I1 q) fun ov s2 ⟨x, H2, I2, rx, a, C, dx, fs, ex, ea, c, n, l, q2⟩ => ?_) hs
  subst ex
  obtain rfl : ov = Value.ref a := rx
  exact setattr_ok I2 ea c n l ry fun s3 I3 => ⟨σ, _, I3, q2⟩
theorem ps_fldaug {op : Operator} {rd : V → V → Hp → VK → Prop} (ha : PE X o ta) (hv : PE X value tv) (hop : InOp X op rd) : PS X (.AugAssign (.Attribute o f tpos) op value pos) (sFldAug X.K ta tv rd f) := by
  intro pins s σ H D I h
  refine wpAny_AugAssign_AttributeAny (thn (ha pins s σ H _ I h) fun ov s1 ⟨x, H1, I1, rx, a, C, dx, fs, v, ex, ea, c, n, l, q⟩ => ?_)
  subst ex
  obtain rfl : ov = Value.ref a := rx
  refine getattr_ok I1 ea c n l fun u s2 I2 ru => thn (hv pins s2 σ H1 _ I2 q) fun w3 s3 ⟨y, H2, I3, ry, q3⟩ => thn (hop pins s3 σ H2 v y u w3 _ I3 ru ry q3) fun w4 s4 ⟨z, H3, I4, rz, dx', fs', ea', l', q4⟩ => ?_
  exact setattr_ok I4 ea' c n l' rz fun s5 I5 => ⟨σ, _, I5, q4⟩
def rAdd : V → V → Hp → VK → Prop := fun x y H Q => ∃ i j, x = .int i ∧ y = .int j ∧ Q (.int (i + j)) H
def rSub : V → V → Hp → VK → Prop := fun x y H Q => ∃ i j, x = .int i ∧ y = .int j ∧ Q (.int (i - j)) H
theorem in_add : InOp X .Add rAdd := by
  rintro pins s σ H x y u v Q I rx ry ⟨i, j, rfl, rfl, q⟩
  obtain ⟨t, rfl⟩ := (show ∃ t, u = Value.int i t from rx)
  obtain ⟨t', rfl⟩ := (show ∃ t', v = Value.int j t' from ry)
  exact PyProof.Rows.iadd_int ⟨.int (i + j), H, I.tok _, ⟨_, rfl⟩, q⟩
theorem in_sub : InOp X .Sub rSub := by
  rintro pins s σ H x y u v Q I rx ry ⟨i, j, rfl, rfl, q⟩
  obtain ⟨t, rfl⟩ := (show ∃ t, u = Value.int i t from rx)
  obtain ⟨t', rfl⟩ := (show ∃ t', v = Value.int j t' from ry)
  exact PyProof.Rows.isub_int ⟨.int (i - j), H, I.tok _, ⟨_, rfl⟩, q⟩

/-- what is between an instance and its method: the tree of a method call -/
theorem methcall_of {pl : Sem Bool} {m : Str} {apos : Pos} {args : List Expr} {pins : List (Addr × Obj)} {s : Shared} {σ : St} {H : Hp} {Q : Value → Shared → Prop} {te : TE} (he : PE X e te) (I : Inv X pins σ H s)
    (h : te σ H fun x H1 => ∃ a C dx fs g, x = .ref a ∧ H1 a = some (.ins C dx fs) ∧ Cls X.K C ∧ Meth X.K C m g ∧ fs.lookup m = none ∧
      ∀ s1, Inv X pins σ H1 s1 → wpAny (model X.prog X.w) X.A (callWith pos (.ref g) [.ref a] (backTo pos (starEach args X.env)) (backToKw pos (keywordEach [] X.env))) Q X.xe s1)
    (ht : eval (.Call (.Attribute e m apos) args [] pos) X.env = (do
      let ov ← eval e X.env
      standAt apos.atName
      let (f, first) ← holding [ov] (getMethod ov m pl)
      callWith pos f first (backTo pos (starEach args X.env)) (backToKw pos (keywordEach [] X.env)))) :
    wpAny (model X.prog X.w) X.A (eval (.Call (.Attribute e m apos) args [] pos) X.env) Q X.xe s := by
  refine PySem.W.methodCall_KW (pl := pl) (thn (he pins s σ H _ I h) fun u s1 ⟨x, H1, I1, rx, a, C, dx, fs, g, ex, ea, c, k, l, q⟩ => ?_) ht
  subst ex
  obtain rfl : u = Value.ref a := rx
  exact getmeth_ok I1 ea c k l (q s1 I1)
end

/-! ### isinstance -/
section
variable {X : Cx} {pins : List (Addr × Obj)} {σ : St} {H : Hp} {s : Shared} {A : Around} {E : Value → Shared → Prop} {Q : Value → Shared → Prop} {c : Value} {b : Bool}
/-- the type of a value, as the fragment's deciders take it; for an instance its class -/
inductive TyOf (K : PySem.W.Frag) (H : Hp) : V → Value → Prop where
  | non : TyOf K H .non (.type "NoneType")
  | bl (x : Bool) : TyOf K H (.bl x) (.type "bool")
  | int (i : Int) : TyOf K H (.int i) (.type "int")
  | str (x : Str) : TyOf K H (.str x) (.type "str")
  | flt (x : UInt64) : TyOf K H (.flt x) (.type "float")
  | lst {a : Addr} {xs : List V} (e : H a = some (.lst xs)) : TyOf K H (.ref a) (.type "list")
  | frz {a : Addr} {o : Obj} {xs : List V} (e : H a = some (.frz o (.lst xs))) : TyOf K H (.ref a) (.type "list")
  | tup {a : Addr} {xs : List V} (e : H a = some (.tup xs)) : TyOf K H (.ref a) (.type "tuple")
  | dK {a : Addr} {kvs : List (Key × V)} (e : H a = some (.dK kvs)) : TyOf K H (.ref a) (.type "dict")
  | dT {a : Addr} {kvs : List (List Key × V)} (e : H a = some (.dT kvs)) : TyOf K H (.ref a) (.type "dict")
  | ins {a C dx : Addr} {fs : List (Str × V)} (e : H a = some (.ins C dx fs)) (cl : Cls K C) (ha : PySem.W.findIn K (.ref C) "__class__" = some (some (.builtin "object.__class__")))
      (hn : PySem.W.specialIn K (.builtin "object.__class__") "__get__" = some (some (.builtin "getset_descriptor.__get__"))) (htk : PySem.W.takesIn K (.builtin "object.__class__") = some true)
      (hm : PySem.W.mroIn K C (.type "object") = some true) : TyOf K H (.ref a) (.ref C)
/-- isinstance(x, c) for one class c, a built-in or an own one: kitOne's answer -/
theorem isinst_ok {x : V} {u t : Value} (I : Inv X pins σ H s) (rx : RelV x u) (ty : TyOf X.K H x t) (e : PySem.W.kitOne X.K t c = some b) (h : ∀ tk, Q (.bool b) { s with toks := tk }) :
    wpAny (model X.prog X.w) A (call (.builtin "isinstance") [u, c]) Q E s := by
  cases ty with
  | non => cases (show u = Value.none from rx); exact PySem.W.kia_one PySem.W.kitx_none I.kIn True.intro e (fun z => nomatch z) h
  | bl y => cases (show u = Value.bool y from rx); exact PySem.W.kia_one PySem.W.kitx_bool I.kIn True.intro e (fun z => nomatch z) h
  | int i => obtain ⟨t, q⟩ := (show ∃ t, u = Value.int i t from rx); cases q; exact PySem.W.kia_one PySem.W.kitx_int I.kIn True.intro e (fun z => nomatch z) h
  | str y => obtain ⟨t, q⟩ := (show ∃ t, u = Value.str y t from rx); cases q; exact PySem.W.kia_one PySem.W.kitx_str I.kIn True.intro e (fun z => nomatch z) h
  | flt y => obtain ⟨t, q⟩ := (show ∃ t, u = Value.float y t from rx); cases q; exact PySem.W.kia_one PySem.W.kitx_float I.kIn True.intro e (fun z => nomatch z) h
  | @lst a xs ea =>
    cases (show u = Value.ref a from rx)
    obtain ⟨_, _, n, _, h1⟩ := (show ObjOk X.prog X.w H s.heap a (.lst xs) from I.hok a _ ea)
    exact PySem.W.kia_one PySem.W.kitx_list I.kIn ⟨_, h1, rfl⟩ e (fun z => nomatch z) h
  | @frz a ob xs ea =>
    cases (show u = Value.ref a from rx)
    obtain ⟨_, _, _, n, _, h1⟩ := (show ObjOk X.prog X.w H s.heap a (.frz ob (.lst xs)) from I.hok a _ ea)
    exact PySem.W.kia_one PySem.W.kitx_list I.kIn ⟨_, h1, rfl⟩ e (fun z => nomatch z) h
  | @tup a xs ea =>
    cases (show u = Value.ref a from rx)
    obtain ⟨_, _, _, p⟩ := (show ObjOk X.prog X.w H s.heap a (.tup xs) from I.hok a _ ea)
    obtain ⟨o, h1, h2, _⟩ := p
    exact PySem.W.kia_one PySem.W.kitx_tuple I.kIn ⟨o, h1, h2⟩ e (fun z => nomatch z) h
  | @dK a kvs ea =>
    cases (show u = Value.ref a from rx)
    obtain ⟨_, _, vs, _, p⟩ := (show ObjOk X.prog X.w H s.heap a (.dK kvs) from I.hok a _ ea)
    obtain ⟨o, es, ep, h1, h2, _⟩ := p
    exact PySem.W.kia_one PySem.W.kitx_dict I.kIn ⟨o, h1, h2.1⟩ e (fun z => nomatch z) h
  | @dT a kvs ea =>
    cases (show u = Value.ref a from rx)
    obtain ⟨_, _, xs, _, o, es, ep, h1, h2, _⟩ := (show ObjOk X.prog X.w H s.heap a (.dT kvs) from I.hok a _ ea)
    exact PySem.W.kia_one PySem.W.kitx_dict I.kIn ⟨o, h1, h2.1⟩ e (fun z => nomatch z) h
  | @ins a C dx fs ea cl ha hn htk hm =>
    cases (show u = Value.ref a from rx)
    obtain ⟨mA, O, _⟩ := ins_get I.hok ea
    obtain ⟨od, J, _⟩ := O.look
    exact PySem.W.kia_one (PySem.W.kitx_own (cl.get _) cl.hd ha hn htk hm) I.kIn J e (fun z => nomatch z) h
end
end L2

namespace L2
open PySem PySem.Spec PyProof.Rows

/-! ### room -/
structure Room (k : Nat) (A : Around) : Prop where
  hd : A.handled = none
  dp : A.depth + 3 * k + 5 < recursionLimit
  un : A.units + 16 * k + 200 < cLine
  gd : A.guards = some []
theorem Room.mono {j k : Nat} {A : Around} (r : Room k A) (h : j ≤ k) : Room j A := ⟨r.hd, by have := r.dp; omega, by have := r.un; omega, r.gd⟩
theorem Room.deeper {k : Nat} {A : Around} (r : Room (k + 1) A) (env : Env) : Room k (A.deeper env) :=
  ⟨r.hd, by have := r.dp; show A.depth + 1 + 3 * k + 5 < _; omega, by have := r.un; show A.units + 3 + 16 * k + 200 < _; omega, r.gd⟩
theorem Room.in1 {k : Nat} {A : Around} (r : Room (k + 1) A) : Room k A.in1 :=
  ⟨r.hd, by have := r.dp; show A.depth + 3 * k + 5 < _; omega, by have := r.un; show A.units + 1 + 16 * k + 200 < _; omega, r.gd⟩
theorem make_depth {A : Around} {C : Addr} {us : List Value} {kw : List (Str × Value)} : (A.under (.builtin "type.__call__" ⟨.ref C :: us, kw⟩)).depth = A.depth + 1 := by
  first | rfl | simp [Around.under, Code.weight, Code.isCreation, Code.isGuard, Code.isCaller, Code.frames, Code.isFrame, guardIds]
theorem make_units {A : Around} {C : Addr} {us : List Value} {kw : List (Str × Value)} : (A.under (.builtin "type.__call__" ⟨.ref C :: us, kw⟩)).units = A.units + 1 := by
  first | rfl | simp [Around.under, Code.cUnits, Code.frames, Code.isFrame]
theorem make_guards {A : Around} {C : Addr} {us : List Value} {kw : List (Str × Value)} : (A.under (.builtin "type.__call__" ⟨.ref C :: us, kw⟩)).guards = A.guards := by
  first | rfl | simp [Around.under, Code.guards, pushGuards, Code.isGuard, guardIds] | (unfold Around.under; cases A.guards <;> rfl)
theorem Room.make {k : Nat} {A : Around} (r : Room (k + 1) A) (C : Addr) (us : List Value) (kw : List (Str × Value)) : Room k (A.under (.builtin "type.__call__" ⟨.ref C :: us, kw⟩)) :=
  ⟨r.hd, by have := r.dp; rw [make_depth]; omega, by have := r.un; rw [make_units]; omega, by rw [make_guards]; exact r.gd⟩
theorem Room.depth {k : Nat} {A : Around} (r : Room k A) : A.depth < recursionLimit := by have := r.dp; omega
theorem Room.units {k : Nat} {A : Around} (r : Room k A) : A.units + 64 < cLine := by have := r.un; omega
theorem Room.units0 {k : Nat} {A : Around} (r : Room k A) : A.units < cLine := by have := r.un; omega

/-! ### argument lists and displays -/
def tNil : TA := fun _ H Q => Q [] H
def tCons (ta : TE) (tr : TA) : TA := fun σ H Q => ta σ H fun x H1 => tr σ H1 fun xs H2 => Q (x :: xs) H2
section
variable {X : Cx} {e : Expr} {es : List Expr} {te : TE} {t : TA} {pos : Pos}
theorem pa_nil : PA X [] tNil := fun _ _ _ _ H Q I h => Calls.spliced_nil ⟨[], H, I, .nil, h⟩
theorem pa_cons (ha : PE X e te) (hr : PA X es t) (hs : starEach (e :: es) X.env = (false, eval e X.env) :: starEach es X.env := by rfl) : PA X (e :: es) (tCons te t) := by
  intro pos pins s σ H Q I h
  rw [hs]
  show wpAny _ _ (spliced ((false, eval e X.env) :: backTo pos (starEach es X.env))) _ _ s
  refine Calls.spliced_cons (thn (ha pins s σ H _ I h) fun u s1 ⟨x, H1, I1, r1, q1⟩ => ?_)
  exact thn (hr pos pins s1 σ H1 _ I1 q1) fun us s2 ⟨xs, H2, I2, r2, q2⟩ => ⟨x :: xs, H2, I2, .cons r1 r2, q2⟩

/-- a tuple, a list of written items -/
def tTup (t : TA) : TE := fun σ H Q => t σ H fun xs H1 => xs.length ≤ sizeLine ∧ ∀ p, H1 p = none → Q (.ref p) (upd H1 p (.tup xs))
def tLst (t : TA) : TE := fun σ H Q => t σ H fun xs H1 => xs.length ≤ sizeLine ∧ ∀ p, H1 p = none → Q (.ref p) (upd H1 p (.lst xs))
theorem pe_tup {x1} (h : PA X es t) : PE X (.Tuple es x1 pos) (tTup t) := by
  intro pins s σ H Q I hq
  refine wpAny_Tuple_spliced (thn (h pos pins s σ H _ I hq) fun us s1 ⟨xs, H1, I1, r, z, q⟩ => ⟨by rw [← r.length]; exact z, ?_⟩)
  have hf : H1 s1.heap.objs.size = none := I1.hok.fresh (Nat.le_refl _)
  refine ⟨.ref s1.heap.objs.size, upd H1 s1.heap.objs.size (.tup xs), I1.laid (t' := s1.toks) (fun b u e => Heap.get?_push_of_some _ e) (Nat.le_refl _) ?_, rfl, q _ hf⟩
  exact ⟨z, us, r, ⟨_, Heap.get?_push_size _ rfl, rfl, _, rfl⟩⟩
theorem pe_lst (h : PA X es t) : PE X (.List es pos) (tLst t) := by
  intro pins s σ H Q I hq
  refine wpAny_List_spliced (thn (h pos pins s σ H _ I hq) fun us s1 ⟨xs, H1, I1, r, z, q⟩ => ⟨by rw [← r.length]; exact z, ?_⟩)
  have hf : H1 s1.heap.objs.size = none := I1.hok.fresh (Nat.le_refl _)
  refine ⟨.ref s1.heap.objs.size, upd H1 s1.heap.objs.size (.lst xs), I1.laid (t' := s1.toks) (fun b u e => Heap.get?_push_of_some _ e) (Nat.le_refl _) ?_, rfl, q _ hf⟩
  exact ⟨z, us, 0, r, Heap.get?_push_size _ rfl⟩
end

/-! ### what a def promises -/
/-- a def's promise: the bound arguments in the parameters' order, the heap, the wanted end, the wanted exception -/
abbrev Sp := List V → Hp → VK → XK → Prop
/-- how an exception lies behind a call (file 08 gives it): the callers' frames, abstract heap and state ahead of the call, the wish, the exception, the state -/
abbrev CXT := List Env → Hp → Shared → XK → Value → Shared → Prop

/-- the state at a call -/
structure Env0 (P : Program) (w : World) (K : PySem.W.Frag) (mg : Str → Option Value) (base : Heap) (A : Around) (outer : List Env) (s : Shared) (H : Hp) : Prop where
  frames : A.frames = some outer
  mod : Mod K mg base
  bs : ∀ b o, base.get? b = some o → s.heap.get? b = some o ∧ H b = none
  bsz : base.objs.size ≤ s.heap.objs.size
  funs : s.heap.FunFrames base outer
  frf : ∀ b ∈ frs outer, H b = none
  hok : HOk P w H s.heap
  bare : AllBare s.gens
/-- a call's end -/
def CE (outer : List Env) (P : Program) (w : World) (H : Hp) (s : Shared) (Q : VK) (u : Value) (s' : Shared) : Prop :=
  ∃ v H', s'.os = s.os ∧ AllBare s'.gens ∧ Un (frs outer) [] H H' s.heap s'.heap ∧ HOk P w H' s'.heap ∧ RelV v u ∧ Q v H'
def CR (CX : CXT) (outer : List Env) (P : Program) (w : World) (H : Hp) (s : Shared) (Q : VK) (E : XK) (r : Result) (s' : Shared) : Prop :=
  match r with
  | .ok (.ret u) => CE outer P w H s Q u s'
  | .ok _ => False
  | .error e => CX outer H s E e s'
structure FnOk (P : Program) (w : World) (K : PySem.W.Frag) (mg : Str → Option Value) (base : Heap) (CX : CXT) (k : Nat) (f : Addr) (fd : FuncData) (ps : List Str) (sp : Sp) : Prop where
  len : ∀ vs H Q E, sp vs H Q E → vs.length = ps.length
  run : ∀ (A : Around) (outer : List Env) (s : Shared) (H : Hp) (args : Args) (us : List Value) (vs : List V) (Q : VK) (E : XK), Room k A → Env0 P w K mg base A outer s H → BindsTo s fd args (ps.zip us) → Vals vs us → sp vs H Q E →
    codeAny (model P w) A (.call (.ref f) args) (CR CX outer P w H s Q E) s
theorem FnOk.mono {P : Program} {w : World} {K : PySem.W.Frag} {mg : Str → Option Value} {base : Heap} {CX : CXT} {j k : Nat} {f : Addr} {fd : FuncData} {ps : List Str} {sp : Sp} (F : FnOk P w K mg base CX j f fd ps sp) (h : j ≤ k) :
    FnOk P w K mg base CX k f fd ps sp := ⟨F.len, fun A outer s H args us vs Q E hr => F.run A outer s H args us vs Q E (hr.mono h)⟩
/-- a weaker promise -/
theorem FnOk.imp {P : Program} {w : World} {K : PySem.W.Frag} {mg : Str → Option Value} {base : Heap} {CX : CXT} {k : Nat} {f : Addr} {fd : FuncData} {ps : List Str} {sp sp' : Sp} (F : FnOk P w K mg base CX k f fd ps sp)
    (h : ∀ vs H Q E, sp' vs H Q E → sp vs H Q E) : FnOk P w K mg base CX k f fd ps sp' :=
  ⟨fun vs H Q E q => F.len vs H Q E (h _ _ _ _ q), fun A outer s H args us vs Q E hr he hb hv hs => F.run A outer s H args us vs Q E hr he hb hv (h _ _ _ _ hs)⟩

theorem Env0.make {P : Program} {w : World} {K : PySem.W.Frag} {mg : Str → Option Value} {base : Heap} {A : Around} {outer : List Env} {s : Shared} {H : Hp} (e : Env0 P w K mg base A outer s H) (C : Addr) (us : List Value) (kw : List (Str × Value)) :
    Env0 P w K mg base (A.under (.builtin "type.__call__" ⟨.ref C :: us, kw⟩)) outer s H := ⟨by first | exact e.frames | (simpa [Around.under, Code.envs, Code.isFrame, pushEnvs] using e.frames), e.mod, e.bs, e.bsz, e.funs, e.frf, e.hok, e.bare⟩
theorem Env0.in1 {P : Program} {w : World} {K : PySem.W.Frag} {mg : Str → Option Value} {base : Heap} {A : Around} {outer : List Env} {s : Shared} {H : Hp} (e : Env0 P w K mg base A outer s H) :
    Env0 P w K mg base A.in1 outer s H := ⟨e.frames, e.mod, e.bs, e.bsz, e.funs, e.frf, e.hok, e.bare⟩

section
variable {X : Cx} {pins : List (Addr × Obj)} {σ : St} {H : Hp} {s s' : Shared}
/-- from a body: what a callee wants -/
theorem Inv.env0 (I : Inv X pins σ H s) : Env0 X.prog X.w X.K X.mg X.base X.A X.stack s H :=
  ⟨I.ok.frames, I.ok.mod, I.bs, Nat.le_trans I.ok.bsz I.sz, I.stack, I.stkFree, I.hok, I.bare⟩
/-- behind a call -/
theorem Inv.after {Q : VK} {u : Value} (I : Inv X pins σ H s) (h : CE X.stack X.prog X.w H s Q u s') : EP X pins σ Q u s' := by
  obtain ⟨v, H', os, bare, un, hok, r, q⟩ := h
  obtain ⟨hh, g, d, t, os'⟩ := s'
  obtain rfl : os' = s.os := os
  exact ⟨v, H', I.call (h' := hh) (g' := g) (d' := d) (t' := t) (ch := []) un hok bare (fun b z => absurd z (by simp)), r, q⟩
end

/-! ### calls -/
/-- f(..): the written arguments, then the defaults dvs; E: what is wanted of an exception -/
def tCall (sp : Sp) (dvs : List V) (E : XK) (t : TA) : TE := fun σ H Q => t σ H fun vs H1 => sp (vs ++ dvs) H1 Q E
/-- o.m(..) of an instance of the class at C -/
def tMeth (C : Addr) (m : Str) (sp : Sp) (dvs : List V) (E : XK) (ta : TE) (t : TA) : TE := fun σ H Q => ta σ H fun x H1 => ∃ a dx fs, x = .ref a ∧ H1 a = some (.ins C dx fs) ∧ fs.lookup m = none ∧
  t σ H1 fun vs H2 => sp (x :: (vs ++ dvs)) H2 Q E
/-- C(..): a new instance and its dict, then __init__ -/
def tMake (C : Addr) (sp : Sp) (dvs : List V) (E : XK) (t : TA) : TE := fun σ H Q => t σ H fun vs H1 => ∀ x dx, H1 x = none → H1 dx = none → dx ≠ x →
  sp (.ref x :: (vs ++ dvs)) (upd (upd H1 dx (.own x)) x (.ins C dx [])) (fun v H2 => v = .non ∧ Q (.ref x) H2) E

/-- how the parameters are bound: us the positional arguments, kw the keywords' values by name, ds the defaults that fill up -/
def Binds (K : PySem.W.Frag) (fd : FuncData) (ps : List Str) (ds : List Value) : Prop :=
  ∀ (s : Shared) (us : List Value), K.In s.heap → (us ++ ds).length = ps.length → BindsTo s fd ⟨us, []⟩ (ps.zip (us ++ ds))
/-- every parameter is given -/
theorem Binds.all {K : PySem.W.Frag} {fd : FuncData} {ps : List Str} (h : ∀ us : List Value, us.length = ps.length → bindArgs fd ⟨us, []⟩ = pure (ps.zip us)) : Binds K fd ps [] := fun s us _ hl => by
  rw [List.append_nil] at hl ⊢
  exact .of_eq (h us hl)

/-- an exception of a callee reaches what this body wants of exceptions -/
def Passes (CX : CXT) (X : Cx) (E : XK) : Prop := ∀ (pins : List (Addr × Obj)) (σ : St) (H : Hp) (s : Shared) (e : Value) (s' : Shared), Inv X pins σ H s → CX X.stack H s E e s' → X.xe e s'

section
variable {X : Cx} {CX : CXT} {k : Nat} {f C : Addr} {fd : FuncData} {ps : List Str} {sp : Sp} {dvs : List V} {ds : List Value} {E : XK} {x m : Str} {p pos apos : Pos} {e o : Expr} {es : List Expr} {ta : TE} {t : TA}

/-- the callee runs -/
theorem run_fn {pins : List (Addr × Obj)} {σ : St} {H : Hp} {s : Shared} {Q : VK} {us : List Value} {vs : List V} (F : FnOk X.prog X.w X.K X.mg X.base CX k f fd ps sp) (hr : Room k X.A) (hb : Binds X.K fd ps ds) (hd : Vals dvs ds) (hx : Passes CX X E)
    (I : Inv X pins σ H s) (r : Vals vs us) (h : sp (vs ++ dvs) H Q E) : wpAny (model X.prog X.w) X.A (call (.ref f) us) (EP X pins σ Q) X.xe s := by
  have r2 : Vals (vs ++ dvs) (us ++ ds) := r.append hd
  have hl : (us ++ ds).length = ps.length := by rw [← r2.length]; exact F.len _ _ _ _ h
  refine wpAny_call (codeAny_mono (F.run X.A X.stack s H ⟨us, []⟩ (us ++ ds) (vs ++ dvs) Q E hr I.env0 (hb s us I.kIn hl) r2 h) fun r s' hq => ?_)
  cases r with
  | error e => exact hx pins σ H s e s' I hq
  | ok fl =>
    cases fl with
    | ret u => exact I.after hq
    | next => exact False.elim hq
    | brk => exact False.elim hq
    | cont => exact False.elim hq

theorem pe_call (F : FnOk X.prog X.w X.K X.mg X.base CX k f fd ps sp) (hr : Room k X.A) (hg : Gl X x) (hm : X.mg x = some (.ref f)) (hk : PySem.W.keepIn X.K (.ref f) = true) (hb : Binds X.K fd ps ds) (hd : Vals dvs ds) (hx : Passes CX X E)
    (ha : PA X (e :: es) t) (hdb : (x == ("__debug__" : Str)) = false := by decide) (he : starEach (e :: es) X.env = (false, eval e X.env) :: starEach es X.env := by rfl) (hpl : (backTo pos (starEach es X.env)).any (·.1) = false := by rfl) :
    PE X (.Call (.Name x p) (e :: es) [] pos) (tCall sp dvs E t) := by
  intro pins s σ H Q I h
  refine wpAny_Call_Name_kw (ld_glob I hg hm ?_ hdb)
  refine PySem.W.callWith_K (h₀ := X.base) I.ok.mod.kin hk (thn (ha pos pins s σ H _ I h) fun us s1 ⟨vs, H1, I1, r, q⟩ => ⟨I1.kIn, ?_⟩) he hpl
  exact run_fn F hr hb hd hx I1 r q
theorem pe_call0 (F : FnOk X.prog X.w X.K X.mg X.base CX k f fd ps sp) (hr : Room k X.A) (hg : Gl X x) (hm : X.mg x = some (.ref f)) (hk : PySem.W.keepIn X.K (.ref f) = true) (hb : Binds X.K fd ps ds) (hd : Vals dvs ds) (hx : Passes CX X E)
    (hdb : (x == ("__debug__" : Str)) = false := by decide) : PE X (.Call (.Name x p) [] [] pos) (tCall sp dvs E tNil) := by
  intro pins s σ H Q I h
  refine wpAny_Call_Name_kw (ld_glob I hg hm ?_ hdb)
  exact PySem.W.callWith_K0 I.kIn hk (run_fn (us := []) F hr hb hd hx I .nil h)

/-- o.m(e, ..) -/
theorem pe_meth {pl : Sem Bool} (he : PE X o ta) (c : Cls X.K C) (hm : Meth X.K C m f) (F : FnOk X.prog X.w X.K X.mg X.base CX k f fd ps sp) (hr : Room k X.A) (hb : Binds X.K fd ps ds) (hd : Vals dvs ds) (hx : Passes CX X E) (ha : PA X (e :: es) t)
    (hst : starEach (e :: es) X.env = (false, eval e X.env) :: starEach es X.env := by rfl) (hpl : (backTo pos (starEach es X.env)).any (·.1) = false := by rfl)
    (ht : eval (.Call (.Attribute o m apos) (e :: es) [] pos) X.env = (do
      let ov ← eval o X.env
      standAt apos.atName
      let (f, first) ← holding [ov] (getMethod ov m pl)
      callWith pos f first (backTo pos (starEach (e :: es) X.env)) (backToKw pos (keywordEach [] X.env))) := by rfl) :
    PE X (.Call (.Attribute o m apos) (e :: es) [] pos) (tMeth C m sp dvs E ta t) := by
  intro pins s σ H Q I h
  refine PySem.W.methodCall_KW (pl := pl) (thn (he pins s σ H _ I h) fun u s1 ⟨x, H1, I1, rx, a, dx, fs, ex, ea, l, q⟩ => ?_) ht
  subst ex
  obtain rfl : u = Value.ref a := rx
  refine getmeth_ok I1 ea c hm l ?_
  refine PySem.W.callWith_K (first := [.ref a]) (h₀ := X.base) I.ok.mod.kin hm.kp (thn (ha pos pins s1 σ H1 _ I1 q) fun us s2 ⟨vs, H2, I2, r, q2⟩ => ⟨I2.kIn, ?_⟩) hst hpl
  exact run_fn (us := .ref a :: us) (vs := .ref a :: vs) F hr hb hd hx I2 (.cons rfl r) q2
/-- o.m() -/
theorem pe_meth0 {pl : Sem Bool} (he : PE X o ta) (c : Cls X.K C) (hm : Meth X.K C m f) (F : FnOk X.prog X.w X.K X.mg X.base CX k f fd ps sp) (hr : Room k X.A) (hb : Binds X.K fd ps ds) (hd : Vals dvs ds) (hx : Passes CX X E)
    (ht : eval (.Call (.Attribute o m apos) [] [] pos) X.env = (do
      let ov ← eval o X.env
      standAt apos.atName
      let (f, first) ← holding [ov] (getMethod ov m pl)
      callWith pos f first (backTo pos (starEach [] X.env)) (backToKw pos (keywordEach [] X.env))) := by rfl) :
    PE X (.Call (.Attribute o m apos) [] [] pos) (tMeth C m sp dvs E ta tNil) := by
  intro pins s σ H Q I h
  refine PySem.W.methodCall_KW (pl := pl) (thn (he pins s σ H _ I h) fun u s1 ⟨x, H1, I1, rx, a, dx, fs, ex, ea, l, q⟩ => ?_) ht
  subst ex
  obtain rfl : u = Value.ref a := rx
  refine getmeth_ok I1 ea c hm l ?_
  exact PySem.W.callWith_K0 (first := [.ref a]) I1.kIn hm.kp (run_fn (us := [.ref a]) (vs := [.ref a]) F hr hb hd hx I1 (.cons rfl .nil) q)

/-- what a class must have to be made -/
structure Mk (K : PySem.W.Frag) (C f : Addr) : Prop where
  makes : PySem.W.makesIn K C = true
  init : PySem.W.findIn K (.ref C) "__init__" = some (some (.ref f))
  fn : PySem.W.isFn K (.ref f) = true
  kp : PySem.W.keepIn K (.ref C) = true

theorem run_make {pins : List (Addr × Obj)} {σ : St} {H : Hp} {s : Shared} {Q : VK} {us : List Value} {vs : List V} (M : Mk X.K C f) (F : FnOk X.prog X.w X.K X.mg X.base CX k f fd ps sp) (hr : Room (k + 1) X.A) (hb : Binds X.K fd ps ds) (hd : Vals dvs ds)
    (hx : Passes CX X E) (I : Inv X pins σ H s) (r : Vals vs us)
    (h : ∀ x dx, H x = none → H dx = none → dx ≠ x → sp (.ref x :: (vs ++ dvs)) (upd (upd H dx (.own x)) x (.ins C dx [])) (fun v H2 => v = .non ∧ Q (.ref x) H2) E) :
    wpAny (model X.prog X.w) X.A (call (.ref C) us) (EP X pins σ Q) X.xe s := by
  have hq := h (s.heap.objs.size + 1) s.heap.objs.size (I.hok.fresh (Nat.le_succ _)) (I.hok.fresh (Nat.le_refl _)) (Nat.ne_of_lt (Nat.lt_succ_self _))
  have I2 := Inv.made (C := C) I
  have r2 : Vals (V.ref (s.heap.objs.size + 1) :: (vs ++ dvs)) (Value.ref (s.heap.objs.size + 1) :: (us ++ ds)) := .cons rfl (r.append hd)
  have hl : (Value.ref (s.heap.objs.size + 1) :: us ++ ds).length = ps.length := by
    have e := r2.length
    rw [F.len _ _ _ _ hq] at e
    exact e.symm
  refine wpAny_call (make_map (f := f) I.kIn M.makes M.init (beq_iff_eq.mp M.fn) (codeAny_mono (F.run _ X.stack _ _ ⟨Value.ref (s.heap.objs.size + 1) :: us, []⟩ (Value.ref (s.heap.objs.size + 1) :: (us ++ ds)) _ _ E (hr.make C us [])
    (I2.env0.make C us []) (hb _ (Value.ref (s.heap.objs.size + 1) :: us) I2.kIn hl) r2 hq) fun r s' hq' => ?_))
  cases r with
  | error e => exact hx pins σ _ _ e s' I2 hq'
  | ok fl =>
    cases fl with
    | ret u =>
      obtain ⟨v, H', I3, rv, ev, q3⟩ := I2.after hq'
      subst ev
      exact ⟨rv, ⟨V.ref (s.heap.objs.size + 1), H', I3, rfl, q3⟩⟩
    | next => exact False.elim hq'
    | brk => exact False.elim hq'
    | cont => exact False.elim hq'
theorem pe_make (M : Mk X.K C f) (F : FnOk X.prog X.w X.K X.mg X.base CX k f fd ps sp) (hr : Room (k + 1) X.A) (hg : Gl X x) (hm : X.mg x = some (.ref C)) (hb : Binds X.K fd ps ds) (hd : Vals dvs ds) (hx : Passes CX X E)
    (ha : PA X (e :: es) t) (hdb : (x == ("__debug__" : Str)) = false := by decide) (he : starEach (e :: es) X.env = (false, eval e X.env) :: starEach es X.env := by rfl) (hpl : (backTo pos (starEach es X.env)).any (·.1) = false := by rfl) :
    PE X (.Call (.Name x p) (e :: es) [] pos) (tMake C sp dvs E t) := by
  intro pins s σ H Q I h
  refine wpAny_Call_Name_kw (ld_glob I hg hm ?_ hdb)
  refine PySem.W.callWith_K (h₀ := X.base) I.ok.mod.kin M.kp (thn (ha pos pins s σ H _ I h) fun us s1 ⟨vs, H1, I1, r, q⟩ => ⟨I1.kIn, ?_⟩) he hpl
  exact run_make M F hr hb hd hx I1 r q
theorem pe_make0 (M : Mk X.K C f) (F : FnOk X.prog X.w X.K X.mg X.base CX k f fd ps sp) (hr : Room (k + 1) X.A) (hg : Gl X x) (hm : X.mg x = some (.ref C)) (hb : Binds X.K fd ps ds) (hd : Vals dvs ds) (hx : Passes CX X E)
    (hdb : (x == ("__debug__" : Str)) = false := by decide) : PE X (.Call (.Name x p) [] [] pos) (tMake C sp dvs E tNil) := by
  intro pins s σ H Q I h
  refine wpAny_Call_Name_kw (ld_glob I hg hm ?_ hdb)
  exact PySem.W.callWith_K0 I.kIn M.kp (run_make (us := []) M F hr hb hd hx I .nil h)
end

/-! ### keywords -/
/-- the values of the keywords, from the left -/
def PK (X : Cx) (kws : List Keyword) (t : TA) : Prop :=
  ∀ (pos : Pos) (pins : List (Addr × Obj)) (s : Shared) (σ : St) (H : Hp) (Q : List V → Hp → Prop), Inv X pins σ H s → t σ H Q → wpAny (model X.prog X.w) X.A (evalAll ((backToKw pos (keywordEach kws X.env)).map (·.2))) (AP X pins σ Q) X.xe s
section
variable {X : Cx} {CX : CXT} {k : Nat} {f C : Addr} {fd : FuncData} {ps ks : List Str} {sp : Sp} {E : XK} {x m : Str} {p pos apos kpos : Pos} {e o : Expr} {es : List Expr} {kws : List Keyword} {te ta : TE} {t tk : TA} {nm : Option Str}
theorem pk_nil : PK X [] tNil := fun _ _ _ _ H Q I h => wpAny_evalAll_nil ⟨[], H, I, .nil, h⟩
theorem pk_cons (ha : PE X e te) (hr : PK X kws t) : PK X (⟨nm, e, kpos⟩ :: kws) (tCons te t) := by
  intro pos pins s σ H Q I h
  show wpAny _ _ (evalAll ((do let v ← eval e X.env; standAt pos; pure v) :: (backToKw pos (keywordEach kws X.env)).map (·.2))) _ _ s
  refine wpAny_evalAll_cons (wpAny_bind (thn (ha pins s σ H _ I h) fun u s1 ⟨x, H1, I1, r1, q1⟩ => wpAny_bind (wpAny_standAt (wpAny_pure ?_))))
  exact thn (hr pos pins s1 σ H1 _ I1 q1) fun us s2 ⟨xs, H2, I2, r2, q2⟩ => ⟨x :: xs, H2, I2, .cons r1 r2, q2⟩

/-- how a call with keywords binds: g puts the positional values us and the keywords' values ws (names ks) in the parameters' order, defaults among them -/
structure KBinds (K : PySem.W.Frag) (fd : FuncData) (ps ks : List Str) (g : List Value → List Value → List Value) (gV : List V → List V → List V) : Prop where
  to : ∀ (s : Shared) (us ws : List Value), K.In s.heap → (g us ws).length = ps.length → BindsTo s fd ⟨us, ks.zip ws⟩ (ps.zip (g us ws))
  rel : ∀ {vs : List V} {us : List Value} {zs : List V} {ws : List Value}, Vals vs us → Vals zs ws → Vals (gV vs zs) (g us ws)
def tCallK (sp : Sp) (gV : List V → List V → List V) (E : XK) (t tk : TA) : TE := fun σ H Q => t σ H fun vs H1 => tk σ H1 fun zs H2 => sp (gV vs zs) H2 Q E
variable {g : List Value → List Value → List Value} {gV : List V → List V → List V}
theorem run_fnk {pins : List (Addr × Obj)} {σ : St} {H : Hp} {s : Shared} {Q : VK} {us ws : List Value} {vs zs : List V} (F : FnOk X.prog X.w X.K X.mg X.base CX k f fd ps sp) (hr : Room k X.A) (hb : KBinds X.K fd ps ks g gV) (hx : Passes CX X E)
    (I : Inv X pins σ H s) (r : Vals vs us) (rz : Vals zs ws) (h : sp (gV vs zs) H Q E) : wpAny (model X.prog X.w) X.A (call (.ref f) us (ks.zip ws)) (EP X pins σ Q) X.xe s := by
  have r2 := hb.rel r rz
  have hl : (g us ws).length = ps.length := by rw [← r2.length]; exact F.len _ _ _ _ h
  refine wpAny_call (codeAny_mono (F.run X.A X.stack s H ⟨us, ks.zip ws⟩ (g us ws) (gV vs zs) Q E hr I.env0 (hb.to s us ws I.kIn hl) r2 h) fun r s' hq => ?_)
  cases r with
  | error e => exact hx pins σ H s e s' I hq
  | ok fl =>
    cases fl with
    | ret u => exact I.after hq
    | next => exact False.elim hq
    | brk => exact False.elim hq
    | cont => exact False.elim hq
/-- f(e, .., k = v, ..) -/
theorem pe_callK (F : FnOk X.prog X.w X.K X.mg X.base CX k f fd ps sp) (hr : Room k X.A) (hg : Gl X x) (hm : X.mg x = some (.ref f)) (hk : PySem.W.keepIn X.K (.ref f) = true) (hb : KBinds X.K fd ps ks g gV) (hx : Passes CX X E)
    (ha : PA X (e :: es) t) (hkw : PK X kws tk) (hall : (backToKw pos (keywordEach kws X.env)).all (·.1.isSome) = true := by rfl) (hks : (backToKw pos (keywordEach kws X.env)).filterMap (·.1) = ks := by rfl)
    (hdb : (x == ("__debug__" : Str)) = false := by decide) (he : starEach (e :: es) X.env = (false, eval e X.env) :: starEach es X.env := by rfl)
    (hpl : ((backTo pos (starEach (e :: es) X.env)).any (·.1) || (backToKw pos (keywordEach kws X.env)).any (·.1.isNone)) = false := by rfl) :
    PE X (.Call (.Name x p) (e :: es) kws pos) (tCallK sp gV E t tk) := by
  intro pins s σ H Q I h
  refine wpAny_Call_Name_kw (ld_glob I hg hm ?_ hdb)
  refine PySem.W.callWith_KW (h₀ := X.base) I.ok.mod.kin hk hall (thn (ha pos pins s σ H _ I h) fun us s1 ⟨vs, H1, I1, r, q⟩ => ?_) hpl he
  refine thn (hkw pos pins s1 σ H1 _ I1 q) fun ws s2 ⟨zs, H2, I2, rz, q2⟩ => ⟨I2.kIn, ?_⟩
  rw [hks]
  exact run_fnk F hr hb hx I2 r rz q2
end

/-! ### a def's body keeps its promise -/
/-- names: the parameters first -/
structure FnScope (N P : List Str) (sc : Scope) : Prop where
  kind : sc.kind = .function
  co : sc.isCoroutine = false
  gen : sc.isGenerator = false
  nd : N.Nodup
  pre : N.take P.length = P
  par : ∀ x ∈ P, sc.names.lookup x = some .local ∨ sc.names.lookup x = some .cell
  nofree : ∀ y ∈ sc.names, y.2 ≠ .free

theorem bindL_out {kindOf : Str → Option NameKind} {x : Str} : ∀ {binds : List (Str × Value)} {m : Str → Option Value}, (∀ v, (x, v) ∉ binds) → bindL kindOf binds m x = m x
  | [], _, _ => rfl
  | (n, v) :: r, m, h => by
    unfold bindL
    rw [bindL_out fun w hw => h w (List.mem_cons_of_mem _ hw)]
    split
    · have : x ≠ n := by rintro rfl; exact h v List.mem_cons_self
      simp [this]
    · rfl
theorem bindC_out {kindOf : Str → Option NameKind} {x : Str} : ∀ {binds : List (Str × Value)} {m : Str → Option Value}, (∀ v, (x, v) ∉ binds) → bindC kindOf binds m x = m x
  | [], _, _ => rfl
  | (n, v) :: r, m, h => by
    unfold bindC
    rw [bindC_out fun w hw => h w (List.mem_cons_of_mem _ hw)]
    split
    · rfl
    · have : x ≠ n := by rintro rfl; exact h v List.mem_cons_self
      simp [this]
theorem bindL_get {kindOf : Str → Option NameKind} {x : Str} {v : Value} : ∀ {P : List Str} {vs : List Value} {i : Nat} {m : Str → Option Value}, P.Nodup → P[i]? = some x → vs[i]? = some v → kindOf x = some .local →
    bindL kindOf (P.zip vs) m x = some v
  | [], _, _, _, _, h, _, _ => by simp at h
  | _ :: _, [], _, _, _, _, h, _ => by simp at h
  | p :: P, w :: vs, 0, m, nd, h1, h2, hk => by
    simp at h1 h2; subst h1; subst h2
    show bindL kindOf ((p, w) :: P.zip vs) m p = _
    unfold bindL
    rw [bindL_out fun v hv => (List.nodup_cons.mp nd).1 (List.of_mem_zip hv).1, if_pos hk]
    simp
  | p :: P, w :: vs, i + 1, m, nd, h1, h2, hk => by
    show bindL kindOf ((p, w) :: P.zip vs) m x = _
    unfold bindL
    exact bindL_get (i := i) (List.nodup_cons.mp nd).2 (by simpa using h1) (by simpa using h2) hk
theorem bindC_get {kindOf : Str → Option NameKind} {x : Str} {v : Value} : ∀ {P : List Str} {vs : List Value} {i : Nat} {m : Str → Option Value}, P.Nodup → P[i]? = some x → vs[i]? = some v → kindOf x ≠ some .local →
    bindC kindOf (P.zip vs) m x = some v
  | [], _, _, _, _, h, _, _ => by simp at h
  | _ :: _, [], _, _, _, _, h, _ => by simp at h
  | p :: P, w :: vs, 0, m, nd, h1, h2, hk => by
    simp at h1 h2; subst h1; subst h2
    show bindC kindOf ((p, w) :: P.zip vs) m p = _
    unfold bindC
    rw [bindC_out fun v hv => (List.nodup_cons.mp nd).1 (List.of_mem_zip hv).1, if_neg hk]
    simp
  | p :: P, w :: vs, i + 1, m, nd, h1, h2, hk => by
    show bindC kindOf ((p, w) :: P.zip vs) m x = _
    unfold bindC
    exact bindC_get (i := i) (List.nodup_cons.mp nd).2 (by simpa using h1) (by simpa using h2) hk

/-- the names' values at the entry -/
def start (N : List Str) (vs : List V) : St := vs.map some ++ List.replicate (N.length - vs.length) none

/-- the context of a def's body, at its entry; an exception leaves the frame, then lies as CX says -/
def cxOf (CX : CXT) (P : Program) (w : World) (K : PySem.W.Frag) (mg : Str → Option Value) (base : Heap) (N : List Str) (qual : Str) (scope : Scope) (f : Addr) (cd : Value) (A : Around) (outer : List Env) (s : Shared) (H : Hp) (E : XK) : Cx where
  prog := P
  w := w
  K := K
  mg := mg
  base := base
  A := A.deeper (envOfC qual scope s.heap.objs.size f cd)
  N := N
  s₀ := s
  H₀ := H
  env := envOfC qual scope s.heap.objs.size f cd
  outer := outer
  stack := envOfC qual scope s.heap.objs.size f cd :: outer
  ex := []
  calm := true
  fn := fun _ => true
  pn := []
  xe := fun e s' => wpAny (model P w) (A.deeper (envOfC qual scope s.heap.objs.size f cd)) (leaving (envOfC qual scope s.heap.objs.size f cd) e) (fun _ s'' => CX outer H s E e s'') (fun e' s'' => CX outer H s E e' s'') s'

theorem cell_has {sc : Scope} {n : Nat} {x : Str} (h : sc.names.lookup x = some .cell) : ∃ c, (cellsFrom n sc.names []).lookup x = some c := by
  have q := PySem.W.cellsFrom_some sc.names n [] (.inl h)
  exact Option.isSome_iff_exists.mp q

theorem inv_start {CX : CXT} {P : Program} {w : World} {K : PySem.W.Frag} {mg : Str → Option Value} {base : Heap} {N ps : List Str} {qual : Str} {scope : Scope} {f : Addr} {cd : Value} {A : Around} {outer : List Env} {s s1 : Shared} {H : Hp} {E : XK} {us : List Value} {vs : List V}
    (S : FnScope N ps scope) (hd : A.handled = none) (e0 : Env0 P w K mg base A outer s H) (hl : vs.length = ps.length) (r : Vals vs us)
    (x : InCallC s s.heap.objs.size (bindL (envOfC qual scope s.heap.objs.size f cd).kindOf (ps.zip us) fun _ => none) (cellsFrom (s.heap.objs.size + 1) scope.names []) (bindC (envOfC qual scope s.heap.objs.size f cd).kindOf (ps.zip us) fun _ => none) s1) :
    Inv (cxOf CX P w K mg base N qual scope f cd A outer s H E) [] (start N vs) H s1 := by
  have hpl : ps.length ≤ N.length := by have := congrArg List.length S.pre; rw [List.length_take] at this; omega
  obtain ⟨h1, tk, rfl, hk⟩ := x.done
  have noA : ∀ b : Addr, b ∉ (cxOf CX P w K mg base N qual scope f cd A outer s H E).ex := fun b z => absurd (show b ∈ ([] : List Addr) from z) (by simp)
  refine ⟨⟨e0.mod, S.kind, rfl, rfl, Nat.le_refl _, fun y z c h1 h2 => ?_, fun y hy => ?_, fun y c _ h => ?_, fun _ => hd, Around.frames_deeper e0.frames, .inr ⟨rfl, rfl⟩, fun b z => absurd z (noA b), e0.bs, e0.bsz, fun b _ _ => noA b, fun b z => absurd z (noA b), e0.funs, e0.frf⟩,
    rfl, e0.bare, Un.kept hk, ⟨_, x.toInCall.ns, fun i y v h1 h2 h3 => ?_⟩, fun y c h => ⟨_, x.cell y c h⟩, e0.hok.fresh (Nat.le_refl _), fun y c h => ?_, fun p hp => absurd (show p ∈ ([] : List (Addr × Obj)) from hp) (by simp), e0.hok.kept hk, ?_⟩
  · exact name_of_addr x.apart (PySem.mem_of_lookup h1) (PySem.mem_of_lookup h2)
  · have hy : scope.names.lookup y = some .cell ∨ scope.names.lookup y = some .free := hy
    rcases hy with hy | hy
    · exact cell_has hy
    · exact absurd rfl (S.nofree _ (PySem.mem_of_lookup hy))
  · exact Nat.le_of_lt (x.above y c (PySem.mem_of_lookup h))
  · have hi : i < vs.length := by
      unfold start at h2
      by_cases hi : i < vs.length
      · exact hi
      · rw [List.getElem?_append_right (by simpa using hi)] at h2
        rw [List.getElem?_replicate] at h2
        split at h2 <;> cases h2
    have ha : vs[i]? = some v := by
      unfold start at h2
      rw [List.getElem?_append_left (by simpa using hi), List.getElem?_map] at h2
      cases e : vs[i]? with
      | none => rw [e] at h2; cases h2
      | some a => rw [e] at h2; cases h2; rfl
    obtain ⟨u, hu, rv⟩ := r.get ha
    have hp : ps[i]? = some y := by
      rw [← S.pre, List.getElem?_take_of_lt (by omega)]; exact h1
    have ndP : ps.Nodup := by rw [← S.pre]; exact S.nd.sublist (List.take_sublist _ _)
    refine ⟨u, rv, ?_⟩
    rcases S.par y (List.mem_of_getElem? hp) with k | k
    · exact .inl ⟨k, bindL_get ndP hp hu k⟩
    · obtain ⟨c, e⟩ := cell_has (n := s.heap.objs.size + 1) k
      refine .inr ⟨.inl k, c, e, ?_⟩
      have q := x.cell y c e
      rw [bindC_get ndP hp hu (by show scope.names.lookup y ≠ _; rw [k]; decide)] at q
      exact q
  · exact e0.hok.fresh (Nat.le_of_lt (x.above y c (PySem.mem_of_lookup h)))
  · unfold start
    show _ = N.length
    rw [List.length_append, List.length_map, List.length_replicate]
    omega

/-- THE RULE: a def (or a method) of the text, by its body. The body's reading t is chosen for each entry; it is run at the parameters' values -/
theorem fn_of {CX : CXT} {P : Program} {w : World} {K : PySem.W.Frag} {mg : Str → Option Value} {base : Heap} {k : Nat} {f : Addr} {name qual : Str} {params : Arguments} {body : List Stmt} {scope : Scope} {dV kV doc pm cdv ct oc : Value} {an od : Option Addr}
    {osl : Array (Option Value)} {N ps : List Str} {sp : Sp} (lk : K.lookup f = some ⟨oc, od, .func (PySem.W.fnOf name qual params body scope dV kV doc pm an cdv ct), osl⟩) (hcd : PySem.W.codeIn K cdv qual = true) (S : FnScope N ps scope)
    (len : ∀ vs H Q E, sp vs H Q E → vs.length = ps.length)
    (hbody : ∀ (A : Around) (outer : List Env) (s : Shared) (H : Hp) (vs : List V) (Q : VK) (E : XK), Room k (A.deeper (envOfC qual scope s.heap.objs.size f cdv)) → sp vs H Q E →
      ∃ t, PSs (cxOf CX P w K mg base N qual scope f cdv A outer s H E) body t ∧ t { nx := fun _ H' => Q .non H', rt := Q } (start N vs) H) :
    FnOk P w K mg base CX (k + 1) f (PySem.W.fnOf name qual params body scope dV kV doc pm an cdv ct) ps sp := by
  refine ⟨len, fun A outer s H args us vs Q E hr e0 hb r hsp => ?_⟩
  have hl := len _ _ _ _ hsp
  have KX : K.In s.heap := e0.mod.kin.keeps fun b o e => (e0.bs b o e).1
  have lim : s.heap.NoLimit := e0.mod.nolimit.keeps fun b o e => (e0.bs b o e).1
  have hkind : ∀ y ∈ ps.zip us, scope.names.lookup y.1 = some .local ∨ (scope.names.lookup y.1 = some .cell ∧ ((cellsFrom (s.heap.objs.size + 1) scope.names []).lookup y.1).isSome = true) := fun ⟨n, v⟩ hy => by
    rcases S.par n (List.of_mem_zip hy).1 with q | q
    · exact .inl q
    · exact .inr ⟨q, PySem.W.cellsFrom_some _ _ _ (.inl q)⟩
  refine codeAny_call_function hr.depth (KX _ _ lk) rfl S.co S.gen rfl (PySem.W.codeRec_of KX hcd) (hb _ _ _ _ ?_)
  refine wpAny_newFunctionEnv_cells S.kind hkind fun env he s1 x => ?_
  subst he
  refine ⟨lim.keeps x.toInCall.keep, codeAny_func ?_⟩
  obtain ⟨t, ht, hq⟩ := hbody A outer s H vs Q E (hr.deeper _) hsp
  have I : Inv (cxOf CX P w K mg base N qual scope f cdv A outer s H E) [] (start N vs) H s1 := inv_start S hr.hd e0 hl r x
  refine wpAny_mono (ht [] s1 (start N vs) H _ I hq) (fun fl s' hs => ?_) fun e s' hs => hs
  have fin : ∀ {σ' : St} {H' : Hp} {v : V} {u : Value}, Inv (cxOf CX P w K mg base N qual scope f cdv A outer s H E) [] σ' H' s' → RelV v u → Q v H' → CE outer P w H s Q u s' :=
    fun {σ' H' v u} J rv q => ⟨v, H', J.os, J.bare, J.base, J.hok, rv, q⟩
  cases fl with
  | ret u =>
    obtain ⟨v, σ', H', J, rv, q⟩ := hs
    exact fin J rv q
  | next =>
    obtain ⟨σ', H', J, q⟩ := hs
    exact fin (v := V.non) (u := Value.none) J rfl q
  | brk =>
    obtain ⟨_, _, _, q⟩ := hs
    exact False.elim q
  | cont =>
    obtain ⟨_, _, _, q⟩ := hs
    exact False.elim q
end L2

namespace L2
open PySem PySem.Spec PyProof.Rows
section
variable {X : Cx} {x : Str} {p pos : Pos} {e : Expr} {es : List Expr} {t : TA} {id T : String} {r : List V → Hp → VK → Prop}

def tCB (r : List V → Hp → VK → Prop) (t : TA) : TE := fun σ H Q => t σ H fun vs H1 => r vs H1 Q
/-- f(e, ..), f a built-in function -/
theorem pe_callB (hc : CallR X (.builtin id) r) (hg : Gl X x) (hm : X.mg x = none) (hv : bootBuiltins x = some (.builtin id)) (ha : PA X (e :: es) t) (hn : x ≠ "__name__" := by decide) (hdb : (x == ("__debug__" : Str)) = false := by decide)
    (he : starEach (e :: es) X.env = (false, eval e X.env) :: starEach es X.env := by rfl) (hpl : (backTo pos (starEach es X.env)).any (·.1) = false := by rfl) : PE X (.Call (.Name x p) (e :: es) [] pos) (tCB r t) := by
  intro pins s σ H Q I h
  refine wpAny_Call_Name_kw (ld_blt I hg hm hv ?_ hn hdb)
  exact PyProof.Rows.callWith_builtin1 (thn (ha pos pins s σ H _ I h) fun us s1 ⟨vs, H1, I1, r1, q1⟩ => hc pins s1 σ H1 vs us Q I1 r1 q1) he hpl
/-- T(e, ..), T a built-in type -/
theorem pe_callTy (hc : CallR X (.type T) r) (hg : Gl X x) (hm : X.mg x = none) (hv : bootBuiltins x = some (.type T)) (ha : PA X (e :: es) t) (hn : x ≠ "__name__" := by decide) (hdb : (x == ("__debug__" : Str)) = false := by decide)
    (he : starEach (e :: es) X.env = (false, eval e X.env) :: starEach es X.env := by rfl) (hpl : (backTo pos (starEach es X.env)).any (·.1) = false := by rfl) : PE X (.Call (.Name x p) (e :: es) [] pos) (tCB r t) := by
  intro pins s σ H Q I h
  refine wpAny_Call_Name_kw (ld_blt I hg hm hv ?_ hn hdb)
  exact PyProof.Rows.callWith_type1 (thn (ha pos pins s σ H _ I h) fun us s1 ⟨vs, H1, I1, r1, q1⟩ => hc pins s1 σ H1 vs us Q I1 r1 q1) he hpl
/-- T() -/
theorem pe_callTy0 (hc : CallR X (.type T) r) (hg : Gl X x) (hm : X.mg x = none) (hv : bootBuiltins x = some (.type T)) (hn : x ≠ "__name__" := by decide) (hdb : (x == ("__debug__" : Str)) = false := by decide) :
    PE X (.Call (.Name x p) [] [] pos) (tCB r tNil) := by
  intro pins s σ H Q I h
  refine wpAny_Call_Name_kw (ld_blt I hg hm hv ?_ hn hdb)
  exact PyProof.Rows.callWith_type0 (hc pins s σ H [] [] Q I .nil h)
end
end L2

namespace HT
open PySem PyProof.Rows

/-- t < u of tuples of ints -/
def lexLt : List Int → List Int → Bool
  | [], [] => false
  | [], _ :: _ => true
  | _ :: _, [] => false
  | x :: xs, y :: ys => if x = y then lexLt xs ys else decide (x < y)
theorem lexLt_cons (x y : Int) (xs ys : List Int) : lexLt (x :: xs) (y :: ys) = if x = y then lexLt xs ys else decide (x < y) := rfl
theorem lexLt_nil_nil : lexLt [] [] = false := rfl
theorem lexLt_nil_cons (y : Int) (ys : List Int) : lexLt [] (y :: ys) = true := rfl
theorem lexLt_cons_nil (x : Int) (xs : List Int) : lexLt (x :: xs) [] = false := rfl

theorem eqAt_int (A : Around) (s : Shared) (a : Int) (t : Tok) (c : Int) (u : Tok) : ∃ e, SeqAt.EqAt A s (.int a t) (.int c u) e ∧ (e = true ↔ a = c) :=
  ⟨(a == c), SeqAt.EqAt.int_int a t c u, by simp⟩
theorem rcLt_int (A : Around) (s : Shared) (a : Int) (t : Tok) (c : Int) (u : Tok) (prog : Program) (w : World) (E : Value → Shared → Prop) (Q : Value → Shared → Prop) (h : Q (.bool (decide (a < c))) s) :
    wpAny (model prog w) A (richCompare .Lt (.int a t) (.int c u)) Q E s :=
  (PyProof.Rows.lt_int h : wpAny (model prog w) A (compareOp .Lt (.int a t) (.int c u)) Q E s)

section
open PySem.SeqAt
open PySem.AutoSeq1 (wpAny_loadPart')
open PySem.MeetsSeq PySem.MeetsSeq2 PySem.MeetsSeq3

theorem tuple_lt_ints (l b : Addr) (items items2 : Array Value) (n n2 : Nat) (dd dd2 : Option Addr) (sl sl2 : Array (Option Value)) (ns ms : List Int) (hi : IntsAre items.toList ns) (hj : IntsAre items2.toList ms) :
    Meets (Builtin.«tuple.__lt__» ⟨[.ref l, .ref b], []⟩)
      (fun _ R s => s.heap.get? l = some { cls := .type "tuple", dict := dd, data := .seq items n, slots := sl } ∧ s.heap.get? b = some { cls := .type "tuple", dict := dd2, data := .seq items2 n2, slots := sl2 } ∧
        R (.ok (.ret (.bool (lexLt ns ms)))) s) :=
  .of_wp fun prog w A R s h => by
    obtain ⟨hp, g, d, tk, os⟩ := s; obtain ⟨hl, hb, h⟩ := h
    have f2 := AutoSeq1.sub_tuple_tuple
    have z1 : items.size = ns.length := by rw [← hi.length]; simp
    have z2 : items2.size = ms.length := by rw [← hj.length]; simp
    wp_walk using wpAny_loadPart' hl, wpAny_loadPart' hb, wpAny_forIn_list _ (fun rest b s' => b.1 = none ∧ s' = ⟨hp, g, d, tk, os⟩ ∧ ∃ (vs ws : List Value) (ns' ms' : List Int), rest = vs.zip ws ∧
      IntsAre vs ns' ∧ IntsAre ws ms' ∧ ns'.length + items2.size = ms'.length + items.size ∧ R (.ok (.ret (.bool (lexLt ns' ms')))) ⟨hp, g, d, tk, os⟩) _
    case turn =>
      rintro ⟨y, x⟩ rest b s' ⟨hb', rfl, vs, ws, ns', ms', hz, hvi, hwi, hlen, hR⟩
      cases hvi with
      | nil => rw [List.zip_nil_left] at hz; cases hz
      | cons a t hvi' =>
        cases hwi with
        | nil => rw [List.zip_nil_right] at hz; cases hz
        | cons c u hwi' =>
          rw [List.zip_cons_cons] at hz
          injection hz with hyx hrest
          injection hyx with hy hx
          subst hy hx
          rw [lexLt_cons] at hR
          simp only [List.length_cons] at hlen
          obtain ⟨e, he, hiff⟩ := eqAt_int A.in1 ⟨hp, g, d, tk, os⟩ a t c u
          refine wpAny_bind (he prog w _ _ ?_)
          cases e with
          | true =>
            rw [if_pos (hiff.mp rfl)] at hR
            wp_walk
            exact ⟨rfl, rfl, _, _, _, _, hrest, hvi', hwi', by omega, hR⟩
          | false =>
            rw [if_neg (fun q => absurd (hiff.mpr q) Bool.false_ne_true)] at hR
            have hri := rcLt_int A.in1 ⟨hp, g, d, tk, os⟩ a t c u prog w
            wp_walk using hri
            exact ⟨_, rfl, by simpa using hR⟩
    case fin =>
      rintro ⟨b1, b2⟩ s' ⟨hb', rfl, vs, ws, ns', ms', hz, hvi, hwi, hlen, hR⟩
      simp only at hb'
      subst hb'
      have hv : lexLt ns' ms' = decide (items.size < items2.size) := by
        cases hvi with
        | nil =>
          cases hwi with
          | nil =>
            simp only [List.length_nil] at hlen
            rw [lexLt_nil_nil]
            exact (decide_eq_false (by omega)).symm
          | cons c u hw =>
            simp only [List.length_nil, List.length_cons] at hlen
            rw [lexLt_nil_cons]
            exact (decide_eq_true (by omega)).symm
        | cons a t hv =>
          cases hwi with
          | nil =>
            simp only [List.length_nil, List.length_cons] at hlen
            rw [lexLt_cons_nil]
            exact (decide_eq_false (by omega)).symm
          | cons c u hw =>
            rw [List.zip_cons_cons] at hz
            cases hz
      rw [hv] at hR
      wp_walk
      exact ⟨_, rfl, by simpa [Builtin.Tuple.tupleCompareSizes] using hR⟩
    case h =>
      exact ⟨rfl, rfl, items.toList, items2.toList, ns, ms, rfl, hi, hj, by omega, h⟩
end

section
variable {prog : Program} {w : World} {A : Around} {E : Value → Shared → Prop} {s : Shared}

theorem lt_tupInts {l b : Addr} {items items2 : Array Value} {ns ms : List Int} {Q : Value → Shared → Prop} (hl : IsTup s.heap l items) (hb : IsTup s.heap b items2) (hi : IntsAre items.toList ns) (hj : IntsAre items2.toList ms)
    (hu : A.units < cLine) (h : Q (.bool (lexLt ns ms)) s) : wpAny (model prog w) A (compareOp .Lt (.ref l) (.ref b)) Q E s := by
  obtain ⟨⟨cls, dd, data, sl⟩, ho, hc, n, hd⟩ := id hl
  obtain ⟨⟨cls2, dd2, data2, sl2⟩, ho2, hc2, n2, hd2⟩ := id hb
  simp only at hc hd hc2 hd2
  subst hc hd hc2 hd2
  exact richCompare_meets_room (op := .Lt) ⟨_, ho, rfl⟩ ⟨_, ho2, rfl⟩ PySem.F.slot_tuple_lt PySem.F.entry_tuple_lt (PySem.F.args_tuple_lt_2 _ _) (tuple_lt_ints l b items items2 n n2 dd dd2 sl sl2 ns ms hi hj)
    ⟨ho, ho2, show Value.bool (lexLt ns ms) ≠ Value.notImplemented ∧ Q (.bool (lexLt ns ms)) s from ⟨(fun x => nomatch x), h⟩⟩ hu

/-- t + u, t not empty -/
theorem cat_tup {t b : Addr} {vs ws : List Value} {Q : Value → Shared → Prop} (ht : IsTup s.heap t vs.toArray) (hb : IsTup s.heap b ws.toArray) (hv : vs ≠ [])
    (h1 : ws = [] → Q (.ref t) s) (h2 : ws ≠ [] → Q (.ref s.heap.objs.size) { s with heap := s.heap.push { cls := .type "tuple", data := .seq (vs ++ ws).toArray } })
    (hsz : vs.length + ws.length ≤ sizeLine) : wpAny (model prog w) A (binaryOp .Add (.ref t) (.ref b)) Q E s := by
  obtain ⟨⟨cls, dd, data, sl⟩, ho, hc, n, hd⟩ := id ht
  obtain ⟨⟨cls2, dd2, data2, sl2⟩, ho2, hc2, n2, hd2⟩ := id hb
  simp only at hc hd hc2 hd2
  subst hc hd hc2 hd2
  have e : vs.toArray ++ ws.toArray = (vs ++ ws).toArray := by simp
  by_cases hw : ws = []
  · exact concat_meets ⟨_, ho, rfl⟩ ⟨_, ho2, rfl⟩ noFill_tuple_add seq_tuple_add PySem.F.slot_tuple_add PySem.F.entry_tuple_add (PySem.F.args_tuple_add_2 _ _)
      (tuple_addW1 t b vs.toArray ws.toArray n n2 dd dd2 sl sl2 (by simpa using hv) (by simp [hw])) ⟨ho, ho2, h1 hw⟩
  · refine concat_meets ⟨_, ho, rfl⟩ ⟨_, ho2, rfl⟩ noFill_tuple_add seq_tuple_add PySem.F.slot_tuple_add PySem.F.entry_tuple_add (PySem.F.args_tuple_add_2 _ _)
      (tuple_addW2 t b vs.toArray ws.toArray n n2 dd dd2 sl sl2 (by simpa using hv) (by simpa using hw) (by rw [List.size_toArray, List.size_toArray]; exact hsz)) ⟨ho, ho2, ?_⟩
    rw [e]
    exact h2 hw

/-! ### t[a:b], not the whole -/
/-- a slice's bound as a place among n (d where it is left out) -/
def sIx (n d : Nat) : Option Int → Nat
  | none => d
  | some v => if v < 0 then (v + (n : Int)).toNat else min v.toNat n
theorem sIx_none (n d : Nat) : sIx n d none = d := rfl
theorem sIx_nat (n d k : Nat) : sIx n d (some (k : Int)) = min k n := by
  show (if (k : Int) < 0 then ((k : Int) + (n : Int)).toNat else min (k : Int).toNat n) = min k n
  rw [if_neg (by omega), Int.toNat_natCast]
theorem sIx_le (n d : Nat) (hd : d ≤ n) (o : Option Int) : sIx n d o ≤ n := by
  cases o with
  | none => exact hd
  | some v =>
    show (if v < 0 then (v + (n : Int)).toNat else min v.toNat n) ≤ n
    by_cases hv : v < 0
    · rw [if_pos hv]; omega
    · rw [if_neg hv]; exact Nat.min_le_right _ _
theorem clip_eq (v : Int) (n d : Nat) : (if v < 0 then max (v + (n : Int)) 0 else min v (n : Int)) = ((sIx n d (some v) : Nat) : Int) := by
  show (if v < 0 then max (v + (n : Int)) 0 else min v (n : Int)) = (((if v < 0 then (v + (n : Int)).toNat else min v.toNat n) : Nat) : Int)
  by_cases hv : v < 0
  · simp only [if_pos hv]; omega
  · simp only [if_neg hv]; omega
theorem adjust_gen (lo hi : Option Int) (n : Nat) : Builtin.Slice.sliceAdjust lo hi 1 (n : Int) = (((sIx n 0 lo : Nat) : Int), ((sIx n n hi : Nat) : Int)) := by
  have h1 : ¬ ((1 : Int) < 0) := by omega
  unfold Builtin.Slice.sliceAdjust
  simp only [h1, if_false]
  refine Prod.ext ?_ ?_
  · cases lo with
    | none => rfl
    | some v => exact clip_eq v n 0
  · cases hi with
    | none => rfl
    | some v => exact clip_eq v n n
theorem places_gen (i j : Nat) : Builtin.Slice.slicePlaces (i : Int) (j : Int) 1 = j - i := by
  unfold Builtin.Slice.slicePlaces
  have h1 : (1 : Int) > 0 := by omega
  simp only [h1, if_true, Int.ediv_one]
  split <;> omega
theorem slicePart_ {v : Value} {o : Option Int} {Q : Option Int → Shared → Prop} (p : IsPart v o) (h : Q o s) : wpAny (model prog w) A (Builtin.Slice.slicePartIndex v) Q E s := by
  cases p with
  | none => exact slicePart_none h
  | int i t => exact slicePart_int h
theorem sliceApplied_gen {sl : Addr} {vl vu : Value} {lo hi : Option Int} {n : Nat} {Q : Int × Int × Nat → Shared → Prop} (hs : s.heap.IsSliceOf sl vl vu .none) (pl : IsPart vl lo) (pu : IsPart vu hi)
    (h : Q (((sIx n 0 lo : Nat) : Int), 1, sIx n n hi - sIx n 0 lo) s) : wpAny (model prog w) A (Builtin.Slice.sliceApplied (.ref sl) (pure (n : Int))) Q E s := by
  obtain ⟨os, hos, hcs, hds⟩ := id hs
  unfold Builtin.Slice.sliceApplied Builtin.Slice.sliceFields
  refine wpAny_bind (wpAny_bind (wpAny_field hos hds (x := vl) rfl (wpAny_bind (wpAny_field hos hds (x := vu) rfl (wpAny_bind (wpAny_field hos hds (x := .none) rfl (wpAny_pure ?_)))))))
  refine wpAny_bind (slicePart_none ?_)
  show wpAny _ _ (if ((1 : Int) == 0) = true then _ else _) _ _ s
  rw [if_neg (by decide)]
  refine wpAny_bind (slicePart_ pl (wpAny_bind (slicePart_ pu (wpAny_bind (wpAny_pure ?_)))))
  show wpAny _ _ (match Builtin.Slice.sliceAdjust lo hi 1 (n : Int) with | (lo, hi) => pure (lo, (1 : Int), Builtin.Slice.slicePlaces lo hi 1)) _ _ s
  rw [adjust_gen lo hi n]
  show wpAny _ _ (pure (((sIx n 0 lo : Nat) : Int), (1 : Int), Builtin.Slice.slicePlaces ((sIx n 0 lo : Nat) : Int) ((sIx n n hi : Nat) : Int) 1)) _ _ s
  rw [places_gen]
  exact wpAny_pure h
theorem pick_gen (xs : Array Value) (i k : Nat) : ((List.range k).filterMap fun (m : Nat) => xs[((i : Int) + (m : Int) * 1).toNat]?).toArray = ((xs.toList.drop i).take k).toArray := by
  have e : (fun (m : Nat) => xs[((i : Int) + (m : Int) * 1).toNat]?) = fun m => xs[i + m]? := by
    funext m
    have : ((i : Int) + (m : Int) * 1).toNat = i + m := by omega
    rw [this]
  rw [e]
  have := pick_run xs i k
  rw [List.filterMap_map] at this
  have e2 : ((fun x => xs[x]?) ∘ fun x => i + x) = fun m => xs[i + m]? := rfl
  rw [e2] at this
  rw [this]

theorem getItem_tuple_cut {t sl : Addr} {items : Array Value} {vl vu : Value} {lo hi : Option Int} {Q : Value → Shared → Prop} (ht : IsTup s.heap t items) (hs : s.heap.IsSliceOf sl vl vu .none) (pl : IsPart vl lo) (pu : IsPart vu hi)
    (hw : ¬ (sIx items.size 0 lo = 0 ∧ sIx items.size items.size hi = items.size))
    (h : Q (.ref s.heap.objs.size) { s with heap := s.heap.push { cls := .type "tuple", data := .seq ((items.toList.drop (sIx items.size 0 lo)).take (sIx items.size items.size hi - sIx items.size 0 lo)).toArray } })
    (hsz : items.size ≤ sizeLine) : wpAny (model prog w) A (getItem (.ref t) (.ref sl)) Q E s := by
  have htake : sizeOk (.seq ((items.toList.drop (sIx items.size 0 lo)).take (sIx items.size items.size hi - sIx items.size 0 lo)).toArray) := by
    show ((items.toList.drop (sIx items.size 0 lo)).take (sIx items.size items.size hi - sIx items.size 0 lo)).toArray.size ≤ sizeLine
    rw [List.size_toArray, List.length_take, List.length_drop, Array.length_toList]
    omega
  have hj : sIx items.size items.size hi ≤ items.size := sIx_le _ _ (Nat.le_refl _) hi
  obtain ⟨os, hos, hcs, hds⟩ := id hs
  have hTs : s.TypeIs (.ref sl) "slice" := ⟨os, hos, hcs⟩
  unfold getItem
  try with_reducible refine wpAny_holding ?_
  first | refine wpAny_bind (wpAny_pure ?_) | skip
  refine wpAny_bind (wpAny_sequenceKey ht.typeIs (by decide) ?_)
  refine wpAny_bind (wpAny_callSpecial?_slot (name := Str.ofString "__getitem__") ht.typeIs PyProof.Rows.slot_tuple_getitem
    (wpAny_call_entry PyProof.Rows.slot_tuple_getitem ht.typeIs entry_tuple_getitem ?_ (args_tuple_getitem _ _)))
  show wpAny _ _ (Builtin.Tuple.tupleItemsOf (.ref t) >>= _) _ _ s
  refine wpAny_bind (tupleItemsOf_ ht ?_)
  refine wpAny_bind (wpAny_typeOf hTs ?_)
  rw [if_pos (by decide)]
  refine wpAny_bind (sliceApplied_gen hs pl pu ?_)
  have hno : ¬ ((((sIx items.size 0 lo : Nat) : Int) == 0 && (1 : Int) == 1 && (sIx items.size items.size hi - sIx items.size 0 lo) == items.size) = true) := by
    intro q
    rw [Bool.and_eq_true, Bool.and_eq_true] at q
    have q1 : ((sIx items.size 0 lo : Nat) : Int) = 0 := eq_of_beq q.1.1
    have q2 : sIx items.size items.size hi - sIx items.size 0 lo = items.size := eq_of_beq q.2
    exact hw ⟨by omega, by omega⟩
  show wpAny _ _ (if (((sIx items.size 0 lo : Nat) : Int) == 0 && (1 : Int) == 1 && (sIx items.size items.size hi - sIx items.size 0 lo) == items.size) = true then _ else _) _ _ s
  rw [if_neg hno, pick_gen]
  first
    | exact wpAny_bind (m := Builtin.Tuple.tupleExact _) (wpAny_newObj_type (wpAny_pure ⟨_, rfl, wpAny_pure h⟩) htake)
    | exact wpAny_bind (m := Builtin.Tuple.tupleExact _) (wpAny_newObj_type (wpAny_bind (wpAny_pure (wpAny_pure ⟨_, rfl, wpAny_pure h⟩))) htake)
    | exact wpAny_bind (wpAny_bind (m := Builtin.Tuple.tupleExact _) (wpAny_newObj_type (wpAny_pure (wpAny_pure ⟨_, rfl, wpAny_pure h⟩)) htake))
    | exact wpAny_bind (wpAny_bind (m := Builtin.Tuple.tupleExact _) (wpAny_newObj_type (wpAny_pure ⟨_, rfl, wpAny_pure h⟩) htake))
end
end HT

namespace L2
open PySem PySem.Spec PyProof.Rows

/-! ### the parts of a slice -/
abbrev TO := St → Hp → (Option Int → Hp → Prop) → Prop
/-- a slice's part (left out, or an int) -/
def PO (X : Cx) (e : Option Expr) (t : TO) : Prop :=
  ∀ (pins : List (Addr × Obj)) (s : Shared) (σ : St) (H : Hp) (Q : Option Int → Hp → Prop), Inv X pins σ H s → t σ H Q →
    wpAny (model X.prog X.w) X.A (evalPart e X.env) (fun u s' => ∃ o H', Inv X pins σ H' s' ∧ IsPart u o ∧ Q o H') X.xe s
def tNoPart : TO := fun _ H Q => Q none H
def tPart (t : TE) : TO := fun σ H Q => t σ H fun x H1 => ∃ i, x = .int i ∧ Q (some i) H1

theorem intsAre_of {ns : List Int} : ∀ {us : List Value}, Vals (ns.map V.int) us → IntsAre us ns := by
  induction ns with
  | nil => intro us r; rw [List.map_nil] at r; cases r; exact .nil
  | cons n ns ih =>
    intro us r
    rw [List.map_cons] at r
    cases r with
    | cons r1 r2 =>
      obtain ⟨t, e⟩ := r1
      subst e
      exact .cons n t (ih r2)

section
variable {X : Cx} {e : Expr} {te : TE} {lo hi : Option Expr} {tl th : TO} {pos p2 : Pos}

theorem po_none : PO X none tNoPart := by
  intro pins s σ H Q I h
  rw [evalPart_none]
  exact wpAny_pure ⟨none, H, I, .none, h⟩
theorem po_some (h : PE X e te) : PO X (some e) (tPart te) := by
  intro pins s σ H Q I hw
  rw [evalPart_some]
  refine thn (h pins s σ H _ I hw) fun u s1 ⟨x, H1, I1, r1, q1⟩ => ?_
  obtain ⟨i, rfl, q⟩ := q1
  obtain ⟨t, rfl⟩ := r1
  exact ⟨some i, H1, I1, .int i t, q⟩

/-- what a slice of a value is, by values: the slice object stands at sl -/
def SlR (X : Cx) (r : V → Option Int → Option Int → Hp → VK → Prop) : Prop :=
  ∀ (pins : List (Addr × Obj)) (s : Shared) (σ : St) (H : Hp) (x : V) (v vl vu : Value) (lo hi : Option Int) (sl : Addr) (Q : VK), Inv X pins σ H s → RelV x v → s.heap.IsSliceOf sl vl vu .none → IsPart vl lo → IsPart vu hi → r x lo hi H Q →
    ∃ T id, typeLookup (.type T) "__getitem__" = pure (some (.builtin id)) ∧ s.TypeIs v T ∧ wpAny (model X.prog X.w) X.A (getItem v (.ref sl)) (EP X pins σ Q) X.xe s
theorem SlR.or {r r' : V → Option Int → Option Int → Hp → VK → Prop} (h : SlR X r) (h' : SlR X r') : SlR X (fun x lo hi H Q => r x lo hi H Q ∨ r' x lo hi H Q) := by
  intro pins s σ H x v vl vu lo hi sl Q I rx hs pl pu q
  rcases q with q | q
  · exact h pins s σ H x v vl vu lo hi sl Q I rx hs pl pu q
  · exact h' pins s σ H x v vl vu lo hi sl Q I rx hs pl pu q
def tSl (r : V → Option Int → Option Int → Hp → VK → Prop) (te : TE) (tl th : TO) : TE := fun σ H Q => te σ H fun x H1 => tl σ H1 fun l H2 => th σ H2 fun u H3 => r x l u H3 Q
/-- a[lo:hi], any a -/
theorem pe_slice {r : V → Option Int → Option Int → Hp → VK → Prop} (hr : SlR X r) (he : PE X e te) (hl : PO X lo tl) (hu : PO X hi th) : PE X (.Subscript e (.Slice lo hi none p2) pos) (tSl r te tl th) := by
  intro pins s σ H Q I h
  refine Subscript_ (thn (he pins s σ H _ I h) fun v s1 ⟨x, H1, I1, r1, q1⟩ => ?_)
  refine wpAny_Slice (thn (hl pins s1 σ H1 _ I1 q1) fun vl s2 ⟨l, H2, I2, pl, q2⟩ => thn (hu pins s2 σ H2 _ I2 q2) fun vu s3 ⟨u, H3, I3, pu, q3⟩ => ?_)
  rw [evalPart_none]
  refine wpAny_pure ?_
  have I4 : Inv X pins σ H3 { s3 with heap := s3.heap.push { cls := .type "slice", data := .fields #[vl, vu, .none] } } := I3.kept (t' := s3.toks) fun b ob q => Heap.get?_push_of_some _ q
  obtain ⟨T, id, hT, ht, hg⟩ := hr pins { s3 with heap := s3.heap.push { cls := .type "slice", data := .fields #[vl, vu, .none] } } σ H3 x v vl vu l u s3.heap.objs.size Q I4 r1 (Heap.IsSliceOf.new ..) pl pu q3
  show wpAny (model X.prog X.w) X.A (subscriptTail e (.Slice lo hi none p2) v (.ref s3.heap.objs.size)) (EP X pins σ Q) X.xe { s3 with heap := s3.heap.push { cls := .type "slice", data := .fields #[vl, vu, .none] } }
  exact tail_any (ops := [.ref s3.heap.objs.size, v]) ht hT hg (by with_unfolding_all rfl)

/-- the items of xs[lo:hi] -/
def cutV (xs : List V) (lo hi : Option Int) : List V := (xs.drop (HT.sIx xs.length 0 lo)).take (HT.sIx xs.length xs.length hi - HT.sIx xs.length 0 lo)
theorem cutV_length (xs : List V) (lo hi : Option Int) : (cutV xs lo hi).length ≤ xs.length := by
  unfold cutV
  rw [List.length_take, List.length_drop]
  omega
/-- t[lo:hi], not the whole of it (the whole would be t itself) -/
def rSlT (K : PySem.W.Frag) : V → Option Int → Option Int → Hp → VK → Prop := fun x lo hi H Q => ∃ a xs, x = .ref a ∧ SqT K H a xs ∧
  ¬ (HT.sIx xs.length 0 lo = 0 ∧ HT.sIx xs.length xs.length hi = xs.length) ∧ ∀ p, H p = none → Q (.ref p) (upd H p (.tup (cutV xs lo hi)))
theorem sl_tup : SlR X (rSlT X.K) := by
  intro pins s σ H x v vl vu lo hi sl Q I rx hs pl pu h
  obtain ⟨a, xs, rfl, hx, hw, q⟩ := h
  cases rx
  obtain ⟨its, r, ht, hz⟩ := I.tuple hx
  have hlen : its.toArray.size = xs.length := by rw [List.size_toArray]; exact r.length.symm
  refine ⟨"tuple", _, PyProof.Rows.slot_tuple_getitem.lookup, ht.typeIs, ?_⟩
  refine HT.getItem_tuple_cut ht hs pl pu (by rw [hlen]; exact hw) ?_ (by rw [hlen]; exact hz)
  rw [hlen]
  refine ⟨.ref s.heap.objs.size, _, I.laid (t' := s.toks) (o := .tup (cutV xs lo hi)) (fun b ob q => Heap.get?_push_of_some _ q) (Nat.le_refl _) ?_, rfl, q _ (I.hok.fresh (Nat.le_refl _))⟩
  exact ⟨Nat.le_trans (cutV_length xs lo hi) hz, _, (r.drop (HT.sIx xs.length 0 lo)).take (HT.sIx xs.length xs.length hi - HT.sIx xs.length 0 lo), IsTup.new _ _⟩

/-! ### t < u, t + u -/
def rLtT (K : PySem.W.Frag) : R2 := fun x y H Q => ∃ a b ns ms, x = .ref a ∧ y = .ref b ∧ SqT K H a (ns.map V.int) ∧ SqT K H b (ms.map V.int) ∧ Q (.bl (HT.lexLt ns ms)) H
theorem op_ltT (hu : X.A.units < cLine) : OpR X (compareOp .Lt) (rLtT X.K) := by
  intro pins s σ H x y v u Q I rx ry h
  obtain ⟨a, b, ns, ms, rfl, rfl, ha, hb, q⟩ := h
  cases rx
  cases ry
  obtain ⟨its, r1, p1, _⟩ := I.tuple ha
  obtain ⟨its2, r2, p2, _⟩ := I.tuple hb
  have i1 : IntsAre its.toArray.toList ns := intsAre_of r1
  have i2 : IntsAre its2.toArray.toList ms := intsAre_of r2
  exact HT.lt_tupInts p1 p2 i1 i2 hu ⟨.bl (HT.lexLt ns ms), H, I, rfl, q⟩
/-- t + u, t not empty: u empty gives t itself -/
def rCatT (K : PySem.W.Frag) : R2 := fun x y H Q => ∃ a b xs ys, x = .ref a ∧ y = .ref b ∧ SqT K H a xs ∧ SqT K H b ys ∧ xs ≠ [] ∧ xs.length + ys.length ≤ sizeLine ∧
  (ys = [] → Q (.ref a) H) ∧ (ys ≠ [] → ∀ p, H p = none → Q (.ref p) (upd H p (.tup (xs ++ ys))))
theorem Vals.nil_iff {xs : List V} {us : List Value} (r : Vals xs us) : us = [] ↔ xs = [] := by
  cases r with
  | nil => simp
  | cons _ _ => simp
theorem op_catT : OpR X (binaryOp .Add) (rCatT X.K) := by
  intro pins s σ H x y v u Q I rx ry h
  obtain ⟨a, b, xs, ys, rfl, rfl, ha, hb, hx, hz, q1, q2⟩ := h
  cases rx
  cases ry
  obtain ⟨its, r1, p1, _⟩ := I.tuple ha
  obtain ⟨its2, r2, p2, _⟩ := I.tuple hb
  refine HT.cat_tup p1 p2 (fun z => hx (r1.nil_iff.mp z)) (fun z => ⟨.ref a, H, I, rfl, q1 (r2.nil_iff.mp z)⟩) (fun z => ?_) (by rw [← r1.length, ← r2.length]; exact hz)
  refine ⟨.ref s.heap.objs.size, _, I.laid (t' := s.toks) (o := .tup (xs ++ ys)) (fun b ob q => Heap.get?_push_of_some _ q) (Nat.le_refl _) ?_, rfl, q2 (fun w => z (r2.nil_iff.mpr w)) _ (I.hok.fresh (Nat.le_refl _))⟩
  exact ⟨by rw [List.length_append]; exact hz, _, r1.append r2, IsTup.new _ _⟩
/-- tuple(t) -/
theorem call_tupleT : CallR X (.type "tuple") (fun xs H Q => ∃ a ys, xs = [.ref a] ∧ SqT X.K H a ys ∧ Q (.ref a) H) := by
  intro pins s σ H xs us Q I r h
  obtain ⟨a, ys, rfl, ha, q⟩ := h
  obtain ⟨u, rfl, ru⟩ := vals1 r
  cases ru
  obtain ⟨its, _, p1, _⟩ := I.tuple ha
  exact call_tuple_same (items := its.toArray) p1 ⟨.ref a, H, I, rfl, q⟩
end
end L2

namespace L2
open PySem PySem.Spec PyProof.Rows

/-! ### places -/
/-- the place that an index of any sign means -/
def ixN (n : Nat) (i : Int) : Option Nat := if 0 ≤ i then (if i < n then some i.toNat else none) else if -(n : Int) ≤ i then some (i + n).toNat else none
def atI {α : Type} (xs : List α) (i : Int) : Option α := (ixN xs.length i).bind fun j => xs[j]?
theorem ixN_seq {n : Nat} {i : Int} {j : Nat} (h : ixN n i = some j) : seqIndex? i n = some j ∧ j < n ∧ -(n : Int) ≤ i ∧ i < n := by
  unfold ixN at h
  by_cases h0 : 0 ≤ i
  · rw [if_pos h0] at h
    by_cases h1 : i < n
    · rw [if_pos h1] at h
      have e : i.toNat = j := Option.some.inj h
      exact ⟨by rw [seqIndex_of h0 h1, e], by omega, by omega, h1⟩
    · rw [if_neg h1] at h; cases h
  · rw [if_neg h0] at h
    by_cases h1 : -(n : Int) ≤ i
    · rw [if_pos h1] at h
      have e : (i + n).toNat = j := Option.some.inj h
      exact ⟨by rw [seqIndex_neg (by omega) h1, e], by omega, h1, by omega⟩
    · rw [if_neg h1] at h; cases h
theorem atI_get {α : Type} {xs : List α} {i : Int} {v : α} (h : atI xs i = some v) : ∃ j, seqIndex? i xs.length = some j ∧ xs[j]? = some v ∧ j < xs.length ∧ -(xs.length : Int) ≤ i ∧ i < xs.length := by
  unfold atI at h
  cases e : ixN xs.length i with
  | none => rw [e] at h; cases h
  | some j =>
    rw [e] at h
    obtain ⟨h1, h2, h3, h4⟩ := ixN_seq e
    exact ⟨j, h1, h, h2, h3, h4⟩
theorem atI_nat {α : Type} {xs : List α} {j : Nat} {v : α} (h : xs[j]? = some v) : atI xs (j : Int) = some v := by
  have hj : j < xs.length := (List.getElem?_eq_some_iff.mp h).1
  have e : ixN xs.length (j : Int) = some j := by
    unfold ixN
    rw [if_pos (by omega), if_pos (by omega)]; simp
  unfold atI; rw [e]; exact h
theorem atI_last {α : Type} (xs : List α) (v : α) : atI (xs ++ [v]) (-1) = some v := by
  have hl : (xs ++ [v]).length = xs.length + 1 := by simp
  have e : ixN (xs ++ [v]).length (-1) = some xs.length := by
    unfold ixN
    rw [hl, if_neg (by decide), if_pos (by omega)]
    congr 1
    omega
  unfold atI
  rw [e]
  show (xs ++ [v])[xs.length]? = some v
  simp

/-! ### what may be subscripted -/
/-- what stands as an index of a plain subscript -/
def PlainIx (b : Expr) : Prop := ∀ o i, subscripted b false o i = operate [o, i] (getItem o i)
/-- a subscript by values -/
def IxR (X : Cx) (r : R2) : Prop :=
  ∀ (value slice : Expr) (pins : List (Addr × Obj)) (s : Shared) (σ : St) (H : Hp) (x y : V) (v u : Value) (Q : VK), Inv X pins σ H s → RelV x v → RelV y u → r x y H Q →
    subscripted slice false v u = operate [v, u] (getItem v u) → wpAny (model X.prog X.w) X.A (subscriptTail value slice v u) (EP X pins σ Q) X.xe s
/-- a call of a builtin's method by values: the receiver, the arguments -/
def MtR (X : Cx) (id : String) (r : V → List V → Hp → VK → Prop) : Prop :=
  ∀ (pins : List (Addr × Obj)) (s : Shared) (σ : St) (H : Hp) (x : V) (xs : List V) (v : Value) (us : List Value) (Q : VK), Inv X pins σ H s → RelV x v → Vals xs us → r x xs H Q →
    wpAny (model X.prog X.w) X.A (call (.builtin id) (v :: us)) (EP X pins σ Q) X.xe s
section
variable {X : Cx} {a b : Expr} {ta tb : TE} {pos : Pos}
theorem IxR.or {r r' : R2} (h : IxR X r) (h' : IxR X r') : IxR X (fun x y H Q => r x y H Q ∨ r' x y H Q) := by
  intro value slice pins s σ H x y v u Q I rx ry q hs
  rcases q with q | q
  · exact h value slice pins s σ H x y v u Q I rx ry q hs
  · exact h' value slice pins s σ H x y v u Q I rx ry q hs
theorem MtR.or {id : String} {r r' : V → List V → Hp → VK → Prop} (h : MtR X id r) (h' : MtR X id r') : MtR X id (fun x xs H Q => r x xs H Q ∨ r' x xs H Q) := by
  intro pins s σ H x xs v us Q I rx rs q
  rcases q with q | q
  · exact h pins s σ H x xs v us Q I rx rs q
  · exact h' pins s σ H x xs v us Q I rx rs q
/-- a[b] -/
theorem pe_ix {r : R2} (hr : IxR X r) (ha : PE X a ta) (hb : PE X b tb) (hs : PlainIx b) : PE X (.Subscript a b pos) (tOp r ta tb) := by
  intro pins s σ H Q I h
  exact Subscript_ (binT ha hb I h fun v u s2 x y H2 I2 rx ry q => hr a b pins s2 σ H2 x y v u Q I2 rx ry q (hs _ _))

def rIxL (K : PySem.W.Frag) : R2 := fun x y H Q => ∃ p xs i v, x = .ref p ∧ y = .int i ∧ SqL K H p xs ∧ atI xs i = some v ∧ Q v H
def rIxT (K : PySem.W.Frag) : R2 := fun x y H Q => ∃ p xs i v, x = .ref p ∧ y = .int i ∧ SqT K H p xs ∧ atI xs i = some v ∧ Q v H
def rIxS : R2 := fun x y H Q => ∃ z i c, x = .str z ∧ y = .int i ∧ z.length ≤ sizeLine ∧ atI z.cps.toList i = some c ∧ Q (.str ⟨#[c]⟩) H
theorem ix_list : IxR X (rIxL X.K) := by
  intro value slice pins s σ H x y v u Q I rx ry h hs
  obtain ⟨p, xs, i, z, rfl, rfl, hq, he, q⟩ := h
  cases rx
  obtain ⟨t, rfl⟩ := ry
  obtain ⟨its, r, pl, hz⟩ := I.list hq
  obtain ⟨j, h1, h2, h3, h4, h5⟩ := atI_get he
  obtain ⟨w, ew, rw'⟩ := r.get h2
  have hl := r.length
  have hn := line63
  have fin : EP X pins σ Q w s := ⟨z, H, I, rw', q⟩
  by_cases h0 : 0 ≤ i
  · have hj : i.toNat = j := by
      rw [seqIndex_of h0 h5] at h1
      exact Option.some.inj h1
    exact item_listR pl.isList h0 (by omega) (by rw [hj]; simpa using ew) fin hs
  · have hj : (i + (its.toArray.size : Int)).toNat = j := by
      rw [seqIndex_neg (by omega) h4] at h1
      rw [List.size_toArray, ← hl]
      exact Option.some.inj h1
    exact subscriptTail_builtinR (x := w) pl.isList.typeIs slot_list_getitem.lookup
      (wpAny_getItem_list_neg (Q := fun r s' => r = w ∧ EP X pins σ Q r s') pl.isList (by omega) (by rw [List.size_toArray] <;> omega) (by omega) (by rw [hj]; simpa using ew) ⟨rfl, fin⟩) hs
theorem ix_tup : IxR X (rIxT X.K) := by
  intro value slice pins s σ H x y v u Q I rx ry h hs
  obtain ⟨p, xs, i, z, rfl, rfl, hq, he, q⟩ := h
  cases rx
  obtain ⟨t, rfl⟩ := ry
  obtain ⟨its, r, pl, hz⟩ := I.tuple hq
  obtain ⟨j, h1, h2, h3, h4, h5⟩ := atI_get he
  obtain ⟨w, ew, rw'⟩ := r.get h2
  have hl := r.length
  have hn := line63
  have fin : EP X pins σ Q w s := ⟨z, H, I, rw', q⟩
  exact subscriptTail_builtinR (x := w) pl.typeIs slot_tuple_getitem.lookup
    (getItem_tuple (j := j) (Q := fun r s' => r = w ∧ EP X pins σ Q r s') pl (by omega) (by omega) (by rw [List.size_toArray, ← hl]; exact h1) (by simpa using ew) ⟨rfl, fin⟩) hs
theorem ix_str : IxR X rIxS := by
  intro value slice pins s σ H x y v u Q I rx ry h hs
  obtain ⟨z, i, c, rfl, rfl, hz, he, q⟩ := h
  obtain ⟨t, rfl⟩ := rx
  obtain ⟨t', rfl⟩ := ry
  obtain ⟨j, h1, h2, h3, h4, h5⟩ := atI_get he
  have hl : z.cps.toList.length = z.length := by simp [Str.length]
  rw [hl] at h1 h4 h5
  have hn := line63
  exact tail_any (typeIs_str s z t) slot_str_getitem.lookup (getItem_str (c := c) (by
    have e1 : decide (i < -(2 ^ 63 : Int)) = false := decide_eq_false (by omega)
    have e2 : decide (i ≥ 2 ^ 63) = false := decide_eq_false (by omega)
    rw [e1, e2, Bool.or_false]) (by rw [h1]; simpa using h2) ⟨.str ⟨#[c]⟩, H, I.tok _, ⟨_, rfl⟩, q⟩) hs
/-- list, tuple or str -/
def rIx (K : PySem.W.Frag) : R2 := fun x y H Q => rIxL K x y H Q ∨ rIxT K x y H Q ∨ rIxS x y H Q
theorem ix_seq : IxR X (rIx X.K) := ix_list.or (ix_tup.or ix_str)

/-! ### xs[i] = v, any sign -/
/-- the list's object behind a store -/
theorem mapSeq_set (its : List Value) (n j : Nat) (u : Value) : Obj.mapSeq (·.setIfInBounds j u) { cls := .type "list", data := .seq its.toArray n } = { cls := .type "list", data := .seq (its.set j u).toArray n } := by
  simp [Obj.mapSeq]
theorem Inv.lst {pins : List (Addr × Obj)} {σ : St} {H : Hp} {s : Shared} {p : Addr} {xs : List V} (I : Inv X pins σ H s) (h : H p = some (.lst xs)) :
    ∃ (its : List Value) (n : Nat), Vals xs its ∧ s.heap.get? p = some { cls := .type "list", data := .seq its.toArray n } ∧ xs.length ≤ sizeLine := by
  obtain ⟨z, its, n, r, e⟩ := I.hok p _ h
  exact ⟨its, n, r, e, z⟩
/-- the list at p is written by an update of its object -/
theorem Inv.lstUpd {pins : List (Addr × Obj)} {σ : St} {H : Hp} {s : Shared} {p : Addr} {xs ys : List V} {its its' : List Value} {n n' : Nat} {f : Obj → Obj} (I : Inv X pins σ H s) (h : H p = some (.lst xs))
    (ho : s.heap.get? p = some { cls := .type "list", data := .seq its.toArray n }) (hf : f { cls := .type "list", data := .seq its.toArray n } = { cls := .type "list", data := .seq its'.toArray n' }) (r : Vals ys its') (hz : ys.length ≤ sizeLine) (t : Nat) :
    Inv X pins σ (upd H p (.lst ys)) { s with heap := s.heap.update p f, toks := t } := by
  have e : (s.heap.update p f).get? p = some { cls := .type "list", data := .seq its'.toArray n' } := by
    rw [Heap.get?_update_self f ho (by rw [hf] <;> rfl), hf]
  refine I.write (x := p) (e := p) (by rw [h]; trivial) (.inl rfl) (fun b u hb q => (Heap.get?_update_other _ _ (Ne.symm hb)).trans q) ⟨_, e⟩ ?_
  exact ⟨hz, its', n', r, e⟩
def rSetL : V → V → V → Hp → (Hp → Prop) → Prop := fun o i v H Q => ∃ p xs k j, o = .ref p ∧ i = .int k ∧ H p = some (.lst xs) ∧ ixN xs.length k = some j ∧ Q (upd H p (.lst (xs.set j v)))
theorem set_list : PSet X rSetL := by
  intro pins s σ H o i v ov iv u Q I ro ri rv h
  obtain ⟨p, xs, k, j, rfl, rfl, hp, hj, q⟩ := h
  cases ro
  obtain ⟨t, rfl⟩ := ri
  obtain ⟨its, n, r, ho, hz⟩ := I.lst hp
  obtain ⟨h1, h2, h3, h4⟩ := ixN_seq hj
  have hl := r.length
  have hn := line63
  have I' : Inv X pins σ (upd H p (.lst (xs.set j v))) { s with heap := s.heap.update p (Obj.mapSeq (·.setIfInBounds j u)) } :=
    I.lstUpd hp ho (mapSeq_set its n j u) (r.set rv j) (by rw [List.length_set]; exact hz) s.toks
  by_cases h0 : 0 ≤ k
  · have hk : k.toNat = j := by
      rw [seqIndex_of h0 h4] at h1
      exact Option.some.inj h1
    exact PySem.W.ki_setAt ho h0 (by omega) (by rw [List.size_toArray, ← hl]; exact h4) (by rw [hk]; exact ⟨_, I', q⟩)
  · have hk : (k + (its.toArray.size : Int)).toNat = j := by
      rw [seqIndex_neg (by omega) h3] at h1
      rw [List.size_toArray, ← hl]
      exact Option.some.inj h1
    exact PySem.W.ki_setBack ho (by omega) (by rw [List.size_toArray, ← hl]; exact h3) (by omega) (by rw [hk]; exact ⟨_, I', q⟩)

/-! ### slices -/
theorem slice_bounds (lo hi : Option Int) (n : Nat) : (sliceBounds lo hi none n).1 = ((HT.sIx n 0 lo : Nat) : Int) ∧ (sliceBounds lo hi none n).2.1 = ((HT.sIx n n hi : Nat) : Int) ∧ (sliceBounds lo hi none n).2.2 = 1 := by
  refine ⟨?_, ?_, rfl⟩
  · cases lo with
    | none => simp [sliceBounds, HT.sIx]
    | some i =>
      simp only [sliceBounds, HT.sIx, Option.getD_none, show (1 : Int) > 0 by decide, if_true]
      by_cases h : i < 0
      · simp only [h, if_true] <;> omega
      · simp only [h, if_false] <;> omega
  · cases hi with
    | none => simp [sliceBounds, HT.sIx]
    | some i =>
      simp only [sliceBounds, HT.sIx, Option.getD_none, show (1 : Int) > 0 by decide, if_true]
      by_cases h : i < 0
      · simp only [h, if_true] <;> omega
      · simp only [h, if_false] <;> omega
theorem slicePick_cut (its : List Value) (lo hi : Option Int) : slicePick its.toArray lo hi none = ((its.drop (HT.sIx its.length 0 lo)).take (HT.sIx its.length its.length hi - HT.sIx its.length 0 lo)).toArray := by
  obtain ⟨h1, h2, h3⟩ := slice_bounds lo hi its.toArray.size
  unfold slicePick
  rw [h1, h2, h3]
  simp only [sliceRange_one, pick_run, List.size_toArray] <;> rfl
/-- xs[lo:hi] of a list: a new list -/
def rSlL (K : PySem.W.Frag) : V → Option Int → Option Int → Hp → VK → Prop := fun x lo hi H Q => ∃ a xs, x = .ref a ∧ SqL K H a xs ∧ ∀ p, H p = none → Q (.ref p) (upd H p (.lst (cutV xs lo hi)))
theorem sl_list : SlR X (rSlL X.K) := by
  intro pins s σ H x v vl vu lo hi sl Q I rx hs pl pu h
  obtain ⟨a, xs, rfl, hx, q⟩ := h
  cases rx
  obtain ⟨its, r, ht, hz⟩ := I.list hx
  have hlen := r.length
  refine ⟨"list", _, slot_list_getitem.lookup, ht.isList.typeIs, ?_⟩
  refine wpAny_getItem_list_slice ht.isList hs pl pu .none (by simp) ?_ (by rw [List.size_toArray] <;> omega)
  rw [slicePick_cut, ← hlen]
  refine ⟨.ref s.heap.objs.size, _, I.laid (t' := s.toks) (o := .lst (cutV xs lo hi)) (fun b ob q => Heap.get?_push_of_some _ q) (Nat.le_refl _) ?_, rfl, q _ (I.hok.fresh (Nat.le_refl _))⟩
  exact ⟨Nat.le_trans (cutV_length xs lo hi) hz, _, 0, (r.drop (HT.sIx xs.length 0 lo)).take (HT.sIx xs.length xs.length hi - HT.sIx xs.length 0 lo), Heap.get?_push_size _ rfl⟩

/-! ### in, not in: flat items -/
def flatV : V → Bool
  | .non => true
  | .bl _ => true
  | .int _ => true
  | .str _ => true
  | _ => false
/-- == of flat values -/
def eqV : V → V → Bool
  | .non, .non => true
  | .bl a, .bl b => a == b
  | .bl a, .int b => (if a then 1 else 0) == b
  | .int a, .bl b => a == (if b then 1 else 0)
  | .int a, .int b => a == b
  | .str a, .str b => a == b
  | _, _ => false
theorem eqAt_V {A : Around} {s : Shared} {y x : V} {u v : Value} (ry : RelV y u) (rx : RelV x v) (fy : flatV y = true) (fx : flatV x = true) : SeqAt.EqAt A s u v (eqV y x) := by
  cases y with
  | non =>
    cases ry
    cases x with
    | non => cases rx; exact SeqAt.EqAt.same _
    | bl b => cases rx; exact SeqAt.EqAt.none_bool b
    | int b => obtain ⟨t, rfl⟩ := rx; exact SeqAt.EqAt.none_int b t
    | str b => obtain ⟨t, rfl⟩ := rx; exact SeqAt.EqAt.none_str b t
    | _ => exact absurd (show false = true from fx) Bool.false_ne_true
  | bl a =>
    cases ry
    cases x with
    | non => cases rx; exact SeqAt.EqAt.bool_none a
    | bl b => cases rx; exact SeqAt.EqAt.bool_bool a b
    | int b => obtain ⟨t, rfl⟩ := rx; exact SeqAt.EqAt.bool_int a b t
    | str b => obtain ⟨t, rfl⟩ := rx; exact SeqAt.EqAt.bool_str a b t
    | _ => exact absurd (show false = true from fx) Bool.false_ne_true
  | int a =>
    obtain ⟨t', rfl⟩ := ry
    cases x with
    | non => cases rx; exact SeqAt.EqAt.int_none a t'
    | bl b => cases rx; exact SeqAt.EqAt.int_bool a t' b
    | int b => obtain ⟨t, rfl⟩ := rx; exact SeqAt.EqAt.int_int a t' b t
    | str b => obtain ⟨t, rfl⟩ := rx; exact SeqAt.EqAt.int_str a t' b t
    | _ => exact absurd (show false = true from fx) Bool.false_ne_true
  | str a =>
    obtain ⟨t', rfl⟩ := ry
    cases x with
    | non => cases rx; exact SeqAt.EqAt.str_none a t'
    | bl b => cases rx; exact SeqAt.EqAt.str_bool a t' b
    | int b => obtain ⟨t, rfl⟩ := rx; exact SeqAt.EqAt.str_int a t' b t
    | str b => obtain ⟨t, rfl⟩ := rx; exact SeqAt.EqAt.str_str a t' b t
    | _ => exact absurd (show false = true from fx) Bool.false_ne_true
  | _ => exact absurd (show false = true from fy) Bool.false_ne_true
/-- the items' answers, read off the values (a value's own answer does not lean on its token) -/
def eqU (x : V) (u : Value) : Bool := match u with
  | .none => eqV .non x
  | .bool b => eqV (.bl b) x
  | .int i _ => eqV (.int i) x
  | .str z _ => eqV (.str z) x
  | _ => false
theorem eqU_of {x y : V} {u : Value} (r : RelV y u) (f : flatV y = true) : eqU x u = eqV y x := by
  cases y with
  | non => cases r; rfl
  | bl b => cases r; rfl
  | int i => obtain ⟨t, rfl⟩ := r; rfl
  | str z => obtain ⟨t, rfl⟩ := r; rfl
  | _ => exact absurd (show false = true from f) Bool.false_ne_true
theorem any_eqU {x : V} : ∀ {xs : List V} {us : List Value}, Vals xs us → xs.all flatV = true → us.any (eqU x) = xs.any fun y => eqV y x
  | _, _, .nil, _ => rfl
  | y :: xs, u :: us, .cons r t, f => by
    rw [List.all_cons, Bool.and_eq_true] at f
    rw [List.any_cons, List.any_cons, eqU_of r f.1, any_eqU t f.2]
theorem mem_eqAt {A : Around} {s : Shared} {x : V} {v : Value} (rx : RelV x v) (fx : flatV x = true) : ∀ {xs : List V} {us : List Value}, Vals xs us → xs.all flatV = true → ∀ u ∈ us, SeqAt.EqAt A s u v (eqU x u)
  | _, _, .nil, _ => fun u hu => by cases hu
  | y :: xs, u :: us, .cons r t, f => fun u' hu => by
    rw [List.all_cons, Bool.and_eq_true] at f
    rcases List.mem_cons.mp hu with rfl | hu
    · rw [eqU_of r f.1]; exact eqAt_V r rx f.1 fx
    · exact mem_eqAt rx fx t f.2 u' hu
def inV (x : V) (xs : List V) : Bool := xs.any fun y => eqV y x
/-- x in a list or tuple of flat items -/
def rIn (K : PySem.W.Frag) (neg : Bool) : R2 := fun x y H Q => ∃ p xs, y = .ref p ∧ (SqL K H p xs ∨ SqT K H p xs) ∧ flatV x = true ∧ xs.all flatV = true ∧ Q (.bl (if neg then !inV x xs else inV x xs)) H
theorem op_in_seq : OpR X (compareOp .In) (rIn X.K false) := by
  intro pins s σ H x y v u Q I rx ry h
  obtain ⟨p, xs, rfl, hq, fx, fs, q⟩ := h
  cases ry
  rcases hq with hq | hq
  · obtain ⟨its, r, pl, hz⟩ := I.list hq
    refine SeqAt.in_listAt (eqU x) pl.isList (fun w hw => mem_eqAt rx fx r fs w (by simpa using hw)) ⟨.bl _, H, I, rfl, ?_⟩
    rw [show its.toArray.any (eqU x) = its.any (eqU x) by simp, any_eqU r fs]
    exact q
  · obtain ⟨its, r, pl, hz⟩ := I.tuple hq
    refine SeqAt.in_tupleAt (eqU x) pl (fun w hw => mem_eqAt rx fx r fs w (by simpa using hw)) ⟨.bl _, H, I, rfl, ?_⟩
    rw [show its.toArray.any (eqU x) = its.any (eqU x) by simp, any_eqU r fs]
    exact q
theorem op_notIn_seq : OpR X (compareOp .NotIn) (rIn X.K true) := by
  intro pins s σ H x y v u Q I rx ry h
  obtain ⟨p, xs, rfl, hq, fx, fs, q⟩ := h
  cases ry
  rcases hq with hq | hq
  · obtain ⟨its, r, pl, hz⟩ := I.list hq
    refine SeqAt.notIn_listAt (eqU x) pl.isList (fun w hw => mem_eqAt rx fx r fs w (by simpa using hw)) ⟨.bl _, H, I, rfl, ?_⟩
    rw [show its.toArray.any (eqU x) = its.any (eqU x) by simp, any_eqU r fs]
    exact q
  · obtain ⟨its, r, pl, hz⟩ := I.tuple hq
    refine SeqAt.notIn_tupleAt (eqU x) pl (fun w hw => mem_eqAt rx fx r fs w (by simpa using hw)) ⟨.bl _, H, I, rfl, ?_⟩
    rw [show its.toArray.any (eqU x) = its.any (eqU x) by simp, any_eqU r fs]
    exact q
theorem op_notIn_str : OpR X (compareOp .NotIn) (fun x y H Q => ∃ i j, x = .str i ∧ y = .str j ∧ Q (.bl (!(!(Builtin.Str.occurrences j i 0 j.length 1).isEmpty))) H) := by
  intro pins s σ H x y v u Q I rx ry h
  obtain ⟨i, j, rfl, rfl, q⟩ := h
  obtain ⟨t, rfl⟩ := rx
  obtain ⟨t', rfl⟩ := ry
  exact notIn_str ⟨.bl _, H, I, rfl, q⟩

/-! ### len, list(x), tuple(x) of any list or tuple that is read -/
theorem call_len_seq : CallR X (.builtin "len") (fun xs H Q => ∃ p ys, xs = [.ref p] ∧ (SqL X.K H p ys ∨ SqT X.K H p ys) ∧ Q (.int ys.length) H) := by
  intro pins s σ H xs us Q I r h
  obtain ⟨p, ys, rfl, hq, q⟩ := h
  obtain ⟨u, rfl, rx⟩ := vals1 r
  cases rx
  have hn := line63
  rcases hq with hq | hq
  · obtain ⟨its, r', pl, hz⟩ := I.list hq
    have hlen := r'.length
    exact Calls.call_len_list pl.isList (by simp only [List.size_toArray] <;> omega) ⟨.int ys.length, H, I.tok _, ⟨s.toks + 1, by rw [List.size_toArray, hlen]⟩, q⟩
  · obtain ⟨its, r', pl, hz⟩ := I.tuple hq
    have hlen := r'.length
    exact len_tuple pl (by simp only [List.size_toArray] <;> omega) ⟨.int ys.length, H, I.tok _, ⟨s.toks + 1, by rw [List.size_toArray, hlen]⟩, q⟩
theorem call_len_str : CallR X (.builtin "len") (fun xs H Q => ∃ z, xs = [.str z] ∧ z.length ≤ sizeLine ∧ Q (.int z.length) H) := by
  intro pins s σ H xs us Q I r h
  obtain ⟨z, rfl, hz, q⟩ := h
  obtain ⟨u, rfl, t, rfl⟩ := vals1 r
  have hn := line63
  exact len_str (by omega) ⟨.int z.length, H, I.tok _, ⟨_, rfl⟩, q⟩
theorem CallR.or {f : Value} {r r' : List V → Hp → VK → Prop} (h : CallR X f r) (h' : CallR X f r') : CallR X f (fun xs H Q => r xs H Q ∨ r' xs H Q) := by
  intro pins s σ H xs us Q I rs q
  rcases q with q | q
  · exact h pins s σ H xs us Q I rs q
  · exact h' pins s σ H xs us Q I rs q
theorem call_list_of : CallR X (.type "list") (fun xs H Q => ∃ p ys, xs = [.ref p] ∧ (SqL X.K H p ys ∨ SqT X.K H p ys) ∧ ∀ l, H l = none → Q (.ref l) (upd H l (.lst ys))) := by
  intro pins s σ H xs us Q I r h
  obtain ⟨p, ys, rfl, hq, q⟩ := h
  obtain ⟨u, rfl, rx⟩ := vals1 r
  cases rx
  have fin : ∀ (its : List Value), Vals ys its → ys.length ≤ sizeLine → ∀ (h' : Heap) (c' : Nat), (∀ b o', s.heap.get? b = some o' → h'.get? b = some o') →
      h'.get? s.heap.objs.size = some { cls := .type "list", dict := none, data := .seq its.toArray c', slots := #[] } → EP X pins σ Q (.ref s.heap.objs.size) { s with heap := h' } := fun its r' hz h' c' kp e =>
    ⟨.ref s.heap.objs.size, _, I.laid (t' := s.toks) kp (Nat.le_refl _) (show ObjOk X.prog X.w _ h' _ (.lst ys) from ⟨hz, its, c', r', e⟩), rfl, q _ (I.hok.fresh (Nat.le_refl _))⟩
  rcases hq with hq | hq
  · obtain ⟨its, r', pl, hz⟩ := I.list hq
    have hlen := r'.length
    obtain ⟨o, ho, hc, n, hd⟩ := pl.isList
    exact call_list_seq p (.inl rfl) ho hc hd (fun h' c' kp e => fin its r' hz h' c' kp e) (by simp only [List.size_toArray] <;> omega)
  · obtain ⟨its, r', pl, hz⟩ := I.tuple hq
    have hlen := r'.length
    obtain ⟨o, ho, hc, n, hd⟩ := pl
    exact call_list_seq p (.inr rfl) ho hc hd (fun h' c' kp e => fin its r' hz h' c' kp e) (by simp only [List.size_toArray] <;> omega)
theorem call_tuple_of : CallR X (.type "tuple") (fun xs H Q => ∃ p ys, xs = [.ref p] ∧ ((SqL X.K H p ys ∧ ∀ l, H l = none → Q (.ref l) (upd H l (.tup ys))) ∨ (SqT X.K H p ys ∧ Q (.ref p) H))) := by
  intro pins s σ H xs us Q I r h
  obtain ⟨p, ys, rfl, h⟩ := h
  obtain ⟨u, rfl, rx⟩ := vals1 r
  cases rx
  rcases h with ⟨hq, q⟩ | ⟨hq, q⟩
  · obtain ⟨its, r', pl, hz⟩ := I.list hq
    have hlen := r'.length
    refine call_tuple_list pl.isList (fun h' kp => ?_) (by simp only [List.size_toArray] <;> omega)
    have I1 : Inv X pins σ H { s with heap := h' } := I.kept (t' := s.toks) kp
    have I2 : Inv X pins σ (upd H h'.objs.size (.tup ys)) { s with heap := h'.push { cls := .type "tuple", data := .seq its.toArray } } :=
      I1.laid (t' := s.toks) (fun b o e => Heap.get?_push_of_some _ e) (Nat.le_refl _) (show ObjOk X.prog X.w _ _ _ (.tup ys) from ⟨hz, its, r', IsTup.new _ _⟩)
    exact ⟨.ref h'.objs.size, _, I2, rfl, q _ (I1.hok.fresh (Nat.le_refl _))⟩
  · obtain ⟨its, r', pl, hz⟩ := I.tuple hq
    exact call_tuple_same pl ⟨.ref p, H, I, rfl, q⟩

/-! ### the call of a builtin's method: o.m(..) -/
/-- the value is of that builtin type -/
def tyV (K : PySem.W.Frag) (T : String) (x : V) (H : Hp) : Prop := match x with
  | .str _ => T = "str"
  | .int _ => T = "int"
  | .ref p => (T = "list" ∧ ∃ xs, SqL K H p xs) ∨ (T = "tuple" ∧ ∃ o, K.lookup p = some o ∧ o.cls = .type "tuple" ∧ o.dict = none) ∨
      (T = "dict" ∧ ((∃ kvs, H p = some (.dK kvs)) ∨ ∃ kvs, H p = some (.dT kvs))) ∨ (T = "set" ∧ ∃ S n, H p = some (.set S n))
  | _ => False
theorem tyV_is {pins : List (Addr × Obj)} {σ : St} {H : Hp} {s : Shared} {T : String} {x : V} {v : Value} (I : Inv X pins σ H s) (r : RelV x v) (ty : tyV X.K T x H) :
    s.TypeIs v T ∧ ∀ a, v = .ref a → ∃ ob, s.heap.get? a = some ob ∧ ob.dict = none := by
  cases x with
  | str z =>
    obtain ⟨t, rfl⟩ := r
    cases (show T = "str" from ty)
    exact ⟨typeIs_str s z t, fun _ e => nomatch e⟩
  | int i =>
    obtain ⟨t, rfl⟩ := r
    cases (show T = "int" from ty)
    exact ⟨typeIs_int s i t, fun _ e => nomatch e⟩
  | ref p =>
    cases r
    rcases ty with ⟨rfl, xs, hq⟩ | ⟨rfl, o, hk, hc, hd⟩ | ⟨rfl, hk⟩ | ⟨rfl, S, n, hk⟩
    · obtain ⟨its, _, pl, _⟩ := I.list hq
      refine ⟨pl.isList.typeIs, fun a e => ?_⟩
      cases e
      obtain ⟨o, n, e, c, hd, _⟩ := pl
      exact ⟨o, e, hd⟩
    · refine ⟨⟨o, I.kIn p o hk, hc⟩, fun a e => ?_⟩
      cases e
      exact ⟨o, I.kIn _ o hk, hd⟩
    · have z : ∃ o, s.heap.get? p = some o ∧ o.ExactDict := by
        rcases hk with ⟨kvs, hk⟩ | ⟨kvs, hk⟩
        · obtain ⟨_, _, _, _, o, _, _, e, ex, _⟩ := I.hok p _ hk
          exact ⟨o, e, ex⟩
        · obtain ⟨_, _, _, _, o, _, _, e, ex, _⟩ := I.hok p _ hk
          exact ⟨o, e, ex⟩
      obtain ⟨o, e, ex⟩ := z
      refine ⟨⟨o, e, ex.1⟩, fun a e2 => ?_⟩
      cases e2
      exact ⟨o, e, ex.2.1⟩
    · obtain ⟨o, _, _, _, e, ex, _⟩ := I.hok p _ hk
      refine ⟨⟨o, e, ex.1⟩, fun a e2 => ?_⟩
      cases e2
      exact ⟨o, e, ex.2.1⟩
  | _ => exact False.elim ty
def tBM0 (K : PySem.W.Frag) (T : String) (r : V → List V → Hp → VK → Prop) (to : TE) : TE := fun σ H Q => to σ H fun x H1 => tyV K T x H1 ∧ r x [] H1 Q
def tBM (K : PySem.W.Frag) (T : String) (r : V → List V → Hp → VK → Prop) (to : TE) (t : TA) : TE := fun σ H Q => to σ H fun x H1 => tyV K T x H1 ∧ t σ H1 fun xs H2 => r x xs H2 Q
variable {o e : Expr} {es : List Expr} {to : TE} {t : TA} {name : Str} {apos cpos : Pos} {T id : String} {r : V → List V → Hp → VK → Prop}
theorem pe_bm0 (pa : PlainAttrs T) (slot : Slot T name id) (hty : typeOf (.builtin id) = pure (.type "method_descriptor")) (hm : MtR X id r) (ho : PE X o to)
    (hbase : attributeBase o name X.env (eval o X.env) = eval o X.env := by rfl) (hline : (apos.endLine == cpos.line) = true := by rfl) : PE X (.Call (.Attribute o name apos) [] [] cpos) (tBM0 X.K T r to) := by
  intro pins s σ H Q I h
  refine wpAny_Call_method0_late hbase hline (thn (ho pins s σ H _ I h) fun v s1 ⟨x, H1, I1, r1, ty, q1⟩ => ?_)
  obtain ⟨h1, h2⟩ := tyV_is I1 r1 ty
  exact ⟨T, id, pa, slot, hty, h1, h2, Calls.callWith_builtin rfl (PySem.evalArgs_none (hm pins s1 σ H1 x [] v [] Q I1 r1 .nil q1))⟩
theorem pe_bm (pa : PlainAttrs T) (slot : Slot T name id) (hty : typeOf (.builtin id) = pure (.type "method_descriptor")) (hm : MtR X id r) (ho : PE X o to) (ha : PA X (e :: es) t)
    (hbase : attributeBase o name X.env (eval o X.env) = eval o X.env := by rfl)
    (hfew : ((backTo cpos (starEach (e :: es) X.env)).all (fun x => !x.1) && (backToKw cpos (keywordEach [] X.env)).all (fun x => x.1.isSome)
      && decide ((e :: es).length + ([] : List Keyword).length + (if ([] : List Keyword).isEmpty then 0 else 1) < 30)) = true := by rfl)
    (hline : (apos.endLine == cpos.line) = true := by rfl) (hs : starEach (e :: es) X.env = (false, eval e X.env) :: starEach es X.env := by rfl) (hplain : (backTo cpos (starEach es X.env)).any (·.1) = false := by rfl) :
    PE X (.Call (.Attribute o name apos) (e :: es) [] cpos) (tBM X.K T r to t) := by
  intro pins s σ H Q I h
  refine wpAny_Call_method_late hbase hfew hline rfl (thn (ho pins s σ H _ I h) fun v s1 ⟨x, H1, I1, r1, ty, q1⟩ => ?_)
  obtain ⟨h1, h2⟩ := tyV_is I1 r1 ty
  refine ⟨T, id, pa, slot, hty, h1, h2, ?_⟩
  have hA := ha cpos pins s1 σ H1 _ I1 q1
  rw [hs] at hA ⊢
  refine Calls.callWith_builtin (by show (false || (backTo cpos (starEach es X.env)).any (·.1)) = false; rw [hplain] <;> rfl) (Calls.evalArgs_plain ?_)
  exact thn hA fun us s2 ⟨vs, H2, I2, r2, q2⟩ => hm pins s2 σ H2 x vs v us Q I2 r1 r2 q2
/- xs.append(e), list.index on a module's tuple .. are MtR facts of 06m -/
end
end L2

namespace L2
open PySem PySem.Spec PyProof.Rows

def MtM (X : Cx) (id : String) (r : V → List V → Hp → VK → Prop) : Prop :=
  ∀ (pins : List (Addr × Obj)) (s : Shared) (σ : St) (H : Hp) (x : V) (xs : List V) (v : Value) (us : List Value) (Q : VK), Inv X pins σ H s → RelV x v → Vals xs us → r x xs H Q →
    wpAny (model X.prog X.w) X.A (call (.builtin id) (v :: us)) (EP X pins σ Q) X.xe s

/-! ### lists of values -/
theorem Vals.one : ∀ {x : V} {us : List Value}, Vals [x] us → ∃ u, us = [u] ∧ RelV x u
  | _, _, .cons r .nil => ⟨_, rfl, r⟩
theorem Vals.two : ∀ {x y : V} {us : List Value}, Vals [x, y] us → ∃ u v, us = [u, v] ∧ RelV x u ∧ RelV y v
  | _, _, _, .cons r (.cons q .nil) => ⟨_, _, rfl, r, q⟩
theorem Vals.zero : ∀ {us : List Value}, Vals [] us → us = []
  | _, .nil => rfl
theorem Vals.dropLast {xs : List V} {us : List Value} (h : Vals xs us) : Vals xs.dropLast us.dropLast := by
  induction h with
  | nil => exact .nil
  | cons r t ih =>
    cases t with
    | nil => exact .nil
    | cons q t' => exact .cons r ih
theorem Vals.eraseIdx : ∀ {xs : List V} {us : List Value} (i : Nat), Vals xs us → Vals (xs.eraseIdx i) (us.eraseIdx i)
  | _, _, _, .nil => .nil
  | _, _, 0, .cons _ t => t
  | _, _, i + 1, .cons r t => .cons r (Vals.eraseIdx i t)
theorem Vals.reverse {xs : List V} {us : List Value} (h : Vals xs us) : Vals xs.reverse us.reverse := by
  induction h with
  | nil => exact .nil
  | cons r t ih => rw [List.reverse_cons, List.reverse_cons]; exact Vals.append ih (.cons r .nil)
theorem Vals.rep {xs : List V} {us : List Value} (h : Vals xs us) : ∀ k : Nat, Vals (List.replicate k xs).flatten (List.replicate k us).flatten
  | 0 => .nil
  | k + 1 => by
    rw [List.replicate_succ, List.replicate_succ, List.flatten_cons, List.flatten_cons]
    exact Vals.append h (Vals.rep h k)
theorem erase_last {α : Type} (l : List α) : l.eraseIdx (l.length - 1) = l.dropLast := by
  induction l with
  | nil => rfl
  | cons a r ih =>
    cases r with
    | nil => rfl
    | cons b r =>
      have e : (a :: b :: r).length - 1 = ((b :: r).length - 1) + 1 := by
        have h1 : (a :: b :: r).length = r.length + 2 := rfl
        have h2 : (b :: r).length = r.length + 1 := rfl
        omega
      rw [e, List.eraseIdx_cons_succ, ih]
      all_goals rfl
theorem len_erase {α : Type} : ∀ (l : List α) (i : Nat), (l.eraseIdx i).length ≤ l.length
  | [], _ => Nat.le_refl _
  | _ :: _, 0 => Nat.le_succ _
  | _ :: r, i + 1 => Nat.succ_le_succ (len_erase r i)
theorem foldl_rep (its : List Value) : ∀ (k : Nat) (acc : List Value),
    List.foldl (fun x1 x2 => x1 ++ x2) acc.toArray (List.replicate k its.toArray) = (acc ++ (List.replicate k its).flatten).toArray
  | 0, acc => by simp
  | k + 1, acc => by
    have e : acc.toArray ++ its.toArray = (acc ++ its).toArray := by simp
    have e2 : (acc ++ its) ++ (List.replicate k its).flatten = acc ++ (List.replicate (k + 1) its).flatten := by
      rw [List.replicate_succ, List.flatten_cons, List.append_assoc]
    rw [← e2, ← foldl_rep its k (acc ++ its), ← e, List.replicate_succ, List.foldl_cons]

section
variable {X : Cx} {pins : List (Addr × Obj)} {σ : St} {H : Hp} {s : Shared} {l b : Addr} {xs ys zs : List V}

/-! ### the two steps: a tracked list is rewritten, a new list is laid -/
theorem Inv.lset {its its' : List Value} {n : Nat} {f : Array Value → Array Value} {t' : Nat} (I : Inv X pins σ H s) (hH : H l = some (.lst xs))
    (e : s.heap.get? l = some { cls := .type "list", data := .seq its.toArray n }) (hf : f its.toArray = its'.toArray) (hv : Vals ys its') (hz : ys.length ≤ sizeLine) :
    Inv X pins σ (upd H l (.lst ys)) { s with heap := s.heap.update l (Obj.mapSeq f), toks := t' } := by
  have q := PySem.IsL.update e f
  rw [hf] at q
  refine I.write (x := l) (e := l) (by rw [hH]; exact trivial) (.inl rfl) (fun b' u hb hu => (Heap.get?_update_other s.heap (Obj.mapSeq f) (Ne.symm hb)).trans hu) ⟨_, q⟩ ?_
  exact ⟨hz, its', _, hv, q⟩
theorem Inv.lnew {its : List Value} {t' : Nat} (I : Inv X pins σ H s) (hv : Vals ys its) (hz : ys.length ≤ sizeLine) :
    Inv X pins σ (upd H s.heap.objs.size (.lst ys)) { s with heap := s.heap.push { cls := .type "list", data := .seq its.toArray }, toks := t' } :=
  I.laid (fun _ _ q => Heap.get?_push_of_some _ q) (Nat.le_refl _) ⟨hz, its, 0, hv, Heap.get?_push_size _ rfl⟩
theorem Inv.fresh (I : Inv X pins σ H s) : H s.heap.objs.size = none := I.hok.fresh (Nat.le_refl _)
theorem Inv.lstM (I : Inv X pins σ H s) (hH : H l = some (.lst xs)) : xs.length ≤ sizeLine ∧ ∃ (its : List Value) (n : Nat), Vals xs its ∧ xs.length = its.length ∧ s.heap.get? l = some { cls := .type "list", data := .seq its.toArray n } := by
  obtain ⟨z, its, n, r, e⟩ := I.hok l _ hH
  exact ⟨z, its, n, r, r.length, e⟩

theorem notLongL {n : Nat} (h : n ≤ sizeLine) : Builtin.List.listTooLong n = false := by
  unfold Builtin.List.listTooLong
  exact decide_eq_false (by omega)
end

section
variable {X : Cx}

/-! ### methods -/
def rAppend : V → List V → Hp → VK → Prop := fun x vs H Q => ∃ l xs y, x = .ref l ∧ vs = [y] ∧ H l = some (.lst xs) ∧ xs.length < sizeLine ∧ Q .non (upd H l (.lst (xs ++ [y])))
theorem mt_append : MtM X "list.append" rAppend := by
  intro pins s σ H x vs v us Q I rx rv h
  obtain ⟨l, xs, y, rfl, rfl, hH, hz, q⟩ := h
  cases rx
  obtain ⟨u, rfl, ru⟩ := rv.one
  obtain ⟨z, its, n, r, hl, e⟩ := I.lstM hH
  refine call_meets F.slot_list_append ⟨_, e, rfl⟩ F.entry_list_append (F.args_list_append_2 _ _) (PySem.list_append l its.toArray n u (by rw [List.size_toArray]; omega)) ⟨e, ?_⟩
  refine ⟨.non, _, I.lset (its' := its ++ [u]) hH e (by simp) (r.append (.cons ru .nil)) ?_, rfl, q⟩
  rw [List.length_append, List.length_singleton]
  omega

def rExtend : V → List V → Hp → VK → Prop := fun x vs H Q => ∃ l b xs zs, x = .ref l ∧ vs = [.ref b] ∧ H l = some (.lst xs) ∧ H b = some (.lst zs) ∧ xs.length + zs.length ≤ sizeLine ∧ Q .non (upd H l (.lst (xs ++ zs)))
theorem mt_extend : MtM X "list.extend" rExtend := by
  intro pins s σ H x vs v us Q I rx rv h
  obtain ⟨l, b, xs, zs, rfl, rfl, hH, hB, hz, q⟩ := h
  cases rx
  obtain ⟨u, rfl, ru⟩ := rv.one
  cases ru
  obtain ⟨z, its, n, r, hl, e⟩ := I.lstM hH
  obtain ⟨z2, its2, n2, r2, hl2, e2⟩ := I.lstM hB
  have hsz : its.toArray.size + its2.toArray.size ≤ sizeLine := by rw [List.size_toArray, List.size_toArray]; omega
  have hlong : ¬ (!its.toArray.isEmpty && Builtin.List.listTooLong (its.toArray.size + its2.toArray.size)) = true := by
    rw [notLongL hsz, Bool.and_false]
    exact Bool.false_ne_true
  refine call_meets F.slot_list_extend ⟨_, e, rfl⟩ F.entry_list_extend (F.args_list_extend_2 _ _)
    (AutoSeq1.list_extend_list_list_0 l its.toArray n b its2.toArray n2 hlong (by rw [List.size_toArray]; omega) (by omega)) ⟨e, e2, ?_⟩
  refine ⟨.non, _, I.lset (its' := its ++ its2) hH e (by simp) (r.append r2) ?_, rfl, q⟩
  rw [List.length_append]
  omega

def rPop : V → List V → Hp → VK → Prop := fun x vs H Q => ∃ l xs y, x = .ref l ∧ vs = [] ∧ H l = some (.lst xs) ∧ xs[xs.length - 1]? = some y ∧ Q y (upd H l (.lst xs.dropLast))
theorem mt_pop : MtM X "list.pop" rPop := by
  intro pins s σ H x vs v us Q I rx rv h
  obtain ⟨l, xs, y, rfl, rfl, hH, hy, q⟩ := h
  cases rx
  have hus := rv.zero
  subst hus
  obtain ⟨z, its, n, r, hl, e⟩ := I.lstM hH
  obtain ⟨u, hu, ru⟩ := r.get hy
  have hy' : its.toArray[its.toArray.size - 1]? = some u := by
    show its.toArray[its.length - 1]? = some u
    rw [← Array.getElem?_toList, ← hl]
    exact hu
  refine call_meets F.slot_list_pop ⟨_, e, rfl⟩ F.entry_list_pop (F.args_list_pop_1 _) (MeetsSeq.list_pop_last l its.toArray n u hy' (by rw [List.size_toArray]; omega)) ⟨e, ?_⟩
  refine ⟨y, _, I.lset (its' := its.dropLast) hH e ?_ r.dropLast ?_, ru, q⟩
  · show its.toArray.eraseIdxIfInBounds (its.toArray.size - 1) = its.dropLast.toArray
    rw [List.size_toArray, List.eraseIdxIfInBounds_toArray, erase_last]
  · rw [List.length_dropLast]
    omega

def rPopAt : V → List V → Hp → VK → Prop := fun x vs H Q => ∃ l xs i k y, x = .ref l ∧ vs = [.int i] ∧ H l = some (.lst xs) ∧ -(2 ^ 63) ≤ i ∧ i < 2 ^ 63 ∧ seqIndex? i xs.length = some k ∧ xs[k]? = some y ∧ Q y (upd H l (.lst (xs.eraseIdx k)))
theorem mt_popAt : MtM X "list.pop" rPopAt := by
  intro pins s σ H x vs v us Q I rx rv h
  obtain ⟨l, xs, i, k, y, rfl, rfl, hH, h1, h2, hk, hy, q⟩ := h
  cases rx
  obtain ⟨u, rfl, ru⟩ := rv.one
  obtain ⟨t, rfl⟩ := ru
  obtain ⟨z, its, n, r, hl, e⟩ := I.lstM hH
  obtain ⟨w, hw, rw'⟩ := r.get hy
  refine call_meets F.slot_list_pop ⟨_, e, rfl⟩ F.entry_list_pop (F.args_list_pop_2 _ _)
    (MeetsSeq.list_pop_at l its.toArray n i t k w (fitsIndex_both h1 h2) (by rw [List.size_toArray, ← hl]; exact hk) (by rw [← Array.getElem?_toList]; exact hw) (by rw [List.size_toArray]; omega)) ⟨e, ?_⟩
  refine ⟨y, _, I.lset (its' := its.eraseIdx k) hH e ?_ (r.eraseIdx k) ?_, rw', q⟩
  · show its.toArray.eraseIdxIfInBounds k = (its.eraseIdx k).toArray
    rw [List.eraseIdxIfInBounds_toArray]
  · have := len_erase xs k
    omega

def rReverse : V → List V → Hp → VK → Prop := fun x vs H Q => ∃ l xs, x = .ref l ∧ vs = [] ∧ H l = some (.lst xs) ∧ Q .non (upd H l (.lst xs.reverse))
theorem mt_reverse : MtM X "list.reverse" rReverse := by
  intro pins s σ H x vs v us Q I rx rv h
  obtain ⟨l, xs, rfl, rfl, hH, q⟩ := h
  cases rx
  have hus := rv.zero
  subst hus
  obtain ⟨z, its, n, r, hl, e⟩ := I.lstM hH
  refine call_meets F.slot_list_reverse ⟨_, e, rfl⟩ F.entry_list_reverse (F.args_list_reverse_1 _) (AutoSeq1.list_reverse_list_0 l its.toArray n (by rw [List.size_toArray]; omega)) ⟨e, ?_⟩
  refine ⟨.non, _, I.lset (its' := its.reverse) hH e (by simp) r.reverse ?_, rfl, q⟩
  rw [List.length_reverse]
  omega

def rClear : V → List V → Hp → VK → Prop := fun x vs H Q => ∃ l xs, x = .ref l ∧ vs = [] ∧ H l = some (.lst xs) ∧ Q .non (upd H l (.lst []))
theorem mt_clear : MtM X "list.clear" rClear := by
  intro pins s σ H x vs v us Q I rx rv h
  obtain ⟨l, xs, rfl, rfl, hH, q⟩ := h
  cases rx
  have hus := rv.zero
  subst hus
  obtain ⟨z, its, n, r, hl, e⟩ := I.lstM hH
  refine call_meets F.slot_list_clear ⟨_, e, rfl⟩ F.entry_list_clear (F.args_list_clear_1 _) (AutoSeq1.list_clear_list_0 l its.toArray n (by rw [List.size_toArray]; omega)) ⟨e, ?_⟩
  exact ⟨.non, _, I.lset (its' := []) (ys := []) hH e rfl .nil (Nat.zero_le _), rfl, q⟩

/-! ### list + list, list += list, list * int -/
def rCat : R2 := fun x y H Q => ∃ l b xs zs, x = .ref l ∧ y = .ref b ∧ H l = some (.lst xs) ∧ H b = some (.lst zs) ∧ xs.length + zs.length ≤ sizeLine ∧ ∀ p, H p = none → Q (.ref p) (upd H p (.lst (xs ++ zs)))
theorem op_cat : OpR X (binaryOp .Add) rCat := by
  intro pins s σ H x y v u Q I rx ry h
  obtain ⟨l, b, xs, zs, rfl, rfl, hH, hB, hz, q⟩ := h
  cases rx
  cases ry
  obtain ⟨z, its, n, r, hl, e⟩ := I.lstM hH
  obtain ⟨z2, its2, n2, r2, hl2, e2⟩ := I.lstM hB
  refine PySem.P.add_list e e2 ?_ (by rw [List.size_toArray, List.size_toArray]; omega)
  have ea : its.toArray ++ its2.toArray = (its ++ its2).toArray := by simp
  rw [ea]
  exact ⟨.ref _, _, I.lnew (t' := s.toks) (r.append r2) (by rw [List.length_append]; omega), rfl, q _ I.fresh⟩
/-- a list times an int (a negative one is nothing) -/
def rRep : R2 := fun x y H Q => ∃ l k xs, x = .ref l ∧ y = .int k ∧ H l = some (.lst xs) ∧ -(2 ^ 63) ≤ k ∧ k < 2 ^ 63 ∧ xs.length * k.toNat ≤ sizeLine ∧
  ∀ p, H p = none → Q (.ref p) (upd H p (.lst (List.replicate k.toNat xs).flatten))
theorem len_rep {α : Type} (xs : List α) (k : Nat) : (List.replicate k xs).flatten.length = k * xs.length := by
  induction k with
  | zero => simp
  | succ k ih => rw [List.replicate_succ, List.flatten_cons, List.length_append, ih, Nat.succ_mul, Nat.add_comm]
theorem op_rep : OpR X (binaryOp .Mult) rRep := by
  intro pins s σ H x y v u Q I rx ry h
  obtain ⟨l, k, xs, rfl, rfl, hH, h1, h2, hz, q⟩ := h
  cases rx
  obtain ⟨t, rfl⟩ := ry
  obtain ⟨z, its, n, r, hl, e⟩ := I.lstM hH
  have hlen : its.toArray.size * k.toNat ≤ sizeLine := by rw [List.size_toArray, ← hl]; exact hz
  have hcap : ¬ its.toArray.size * k.toNat > (2 ^ 63 - 1) / 8 := by
    have : (sizeLine : Nat) ≤ (2 ^ 63 - 1) / 8 := by decide
    omega
  have hfit : ¬ (!Builtin.List.listFitsIndex k) = true := by
    rw [fitsIndex_both h1 h2]
    exact Bool.false_ne_true
  have hlong : ¬ Builtin.List.listTooLong (its.toArray.size * k.toNat) = true := by
    rw [notLongL hlen]
    exact Bool.false_ne_true
  have hnew : List.foldl (fun x1 x2 => x1 ++ x2) #[] (List.replicate (if its.toArray.isEmpty = true then 0 else k.toNat) its.toArray) = (List.replicate k.toNat its).flatten.toArray := by
    have f0 : ∀ m : Nat, List.foldl (fun x1 x2 => x1 ++ x2) #[] (List.replicate m its.toArray) = (List.replicate m its).flatten.toArray := fun m => by
      have := foldl_rep its m []
      rw [List.nil_append] at this
      exact this
    rw [f0]
    cases its with
    | nil => simp
    | cons a r' => rw [if_neg (by simp)]
  refine wpAny_binaryOp_repeat_ref (T := "list") (U := "int") (by decide) ⟨_, e, rfl⟩ (fun s' => typeIs_int s' k t) noFill_list_mul F.fills_int_mul F.slot_int_rmul repeat_list F.slot_int_index.lookup
    (call_meets F.slot_int_rmul (typeIs_int s k t) F.entry_int_rmul (F.args_int_rmul_2 _ _) (int___rmul___int_list k t l its.toArray n)
      ⟨e, rfl, ⟨_, e, rfl⟩, call_meets F.slot_list_mul ⟨_, e, rfl⟩ F.entry_list_mul (F.args_list_mul_2 _ _) (AutoListH.list___mul___list_int_3 l its.toArray n k t hfit hcap hlong) ⟨e, ?_⟩⟩)
  rw [hnew]
  exact ⟨.ref _, _, I.lnew (t' := s.toks) (r.rep k.toNat) (by rw [len_rep, Nat.mul_comm]; exact hz), rfl, q _ I.fresh⟩

/-! ### del xs[i] -/
theorem del_list {pins : List (Addr × Obj)} {s : Shared} {σ : St} {H : Hp} {l : Addr} {xs : List V} {i : Int} {t : Tok} {k : Nat} {Q : Unit → Shared → Prop} (I : Inv X pins σ H s) (hH : H l = some (.lst xs))
    (h1 : -(2 ^ 63) ≤ i) (h2 : i < 2 ^ 63) (hk : seqIndex? i xs.length = some k) (h : ∀ s', Inv X pins σ (upd H l (.lst (xs.eraseIdx k))) s' → Q () s') :
    wpAny (model X.prog X.w) X.A (delItem (.ref l) (.int i t)) Q X.xe s := by
  obtain ⟨z, its, n, r, hl, e⟩ := I.lstM hH
  refine PySem.P.delItem_list (k := k) e (fitsIndex_both h1 h2) (by rw [List.size_toArray, ← hl]; exact hk) (h _ ?_) (by rw [List.size_toArray]; omega)
  refine I.lset (its' := its.eraseIdx k) (t' := s.toks) hH e ?_ (r.eraseIdx k) ?_
  · show its.toArray.eraseIdxIfInBounds k = (its.eraseIdx k).toArray
    rw [List.eraseIdxIfInBounds_toArray]
  · have := len_erase xs k
    omega
end

/-! ### xs[a:b] = ys -/
section
variable {prog : Program} {w : World} {A : Around} {E : Value → Shared → Prop} {s : Shared}
theorem splice_eq (its its2 : List Value) (a c : Nat) : its.toArray.extract 0 a ++ its2.toArray ++ its.toArray.extract c its.toArray.size = (its.take a ++ its2 ++ its.drop c).toArray := by
  apply Array.toList_inj.mp
  first
    | (simp
       exact List.take_of_length_le (by simp))
    | simp [List.take_of_length_le]
    | simp
theorem bounds_run {a c n : Nat} (hac : a ≤ c) (hc : c ≤ n) : sliceBounds (some (a : Int)) (some (c : Int)) none n = ((a : Int), (c : Int), 1) := by
  simp only [sliceBounds, Option.getD_none]
  have h1 : ¬ ((a : Int) < 0) := by omega
  have h2 : ¬ ((c : Int) < 0) := by omega
  simp only [h1, h2, if_false, show (1 : Int) > 0 by decide, if_true]
  congr 1
  · omega
  · congr 1; omega
set_option maxRecDepth 100000 in
/-- list.__setitem__ with a slice of step one and another list -/
theorem setItem_slice {l b sl : Addr} {items new : Array Value} {n n2 : Nat} {vl vu : Value} {a c : Nat} {Q : Unit → Shared → Prop}
    (e : s.heap.get? l = some { cls := .type "list", data := .seq items n }) (e2 : s.heap.get? b = some { cls := .type "list", data := .seq new n2 }) (hne : l ≠ b)
    (hs : s.heap.IsSliceOf sl vl vu .none) (pl : IsPart vl (some (a : Int))) (pu : IsPart vu (some (c : Int))) (hac : a ≤ c) (hc : c ≤ items.size)
    (hsz : items.size + new.size ≤ sizeLine) (h : Q () { s with heap := s.heap.update l (Obj.mapSeq fun xs => xs.extract 0 a ++ new ++ xs.extract c xs.size) }) :
    wpAny (model prog w) A (setItem (.ref l) (.ref sl) (.ref b)) Q E s := by
  have hl : s.heap.IsList l items := PySem.IsL.isList e
  have hb : s.heap.IsList b new := PySem.IsL.isList e2
  obtain ⟨os, hos, hcs, hds⟩ := id hs
  have hTs : s.TypeIs (.ref sl) "slice" := ⟨os, hos, hcs⟩
  have hstep : ¬ ((rawPart none == rawInt 0) = true) := Bool.false_ne_true
  have hsame : Builtin.List.listSameRef (.ref l) (.ref b) = false := by
    unfold Builtin.List.listSameRef
    exact beq_eq_false_iff_ne.mpr hne
  have hmax : (max (a : Int) (c : Int)).toNat = c := by omega
  have hz' : ((fun xs : Array Value => xs.extract 0 a ++ new ++ xs.extract c xs.size) items).size ≤ sizeLine + 1 := by
    simp only [Array.size_append, Array.size_extract]
    omega
  unfold setItem
  try with_reducible refine wpAny_holding ?_
  first | refine wpAny_bind (wpAny_pure ?_) | skip
  refine wpAny_bind (wpAny_sequenceKey hl.typeIs (by decide) ?_)
  refine wpAny_bind (wpAny_callSpecial?_slot (name := Str.ofString "__setitem__") hl.typeIs slot_list_setitem
    (wpAny_call_entry slot_list_setitem hl.typeIs entry_list_setitem ?_ (args_list_setitem _ _ _)))
  show wpAny _ _ (Builtin.List.listSubscript? (.ref sl) >>= _) _ _ s
  refine wpAny_bind ?_
  unfold Builtin.List.listSubscript?
  refine wpAny_bind (wpAny_specialOf hTs slice_no_index ?_)
  simp only [Option.isNone_none, if_true]
  refine wpAny_pure ?_
  show wpAny _ _ (typeOf (.ref sl) >>= _) _ _ s
  refine wpAny_bind (wpAny_typeOf hTs ?_)
  first
    | rw [if_neg (by decide)]
    | refine PySem.W.KFB.if_not (by decide) ?_
  rw [listSliceParts_eq]
  refine wpAny_bind (wpAny_bind (wpAny_field hos hds (x := .none) rfl (wpAny_bind (wpAny_listPart .none ?_))))
  rw [if_neg hstep]
  refine wpAny_bind (wpAny_field hos hds (x := vl) rfl (wpAny_bind (wpAny_listPart pl ?_)))
  refine wpAny_bind (wpAny_field hos hds (x := vu) rfl (wpAny_bind (wpAny_listPart pu (wpAny_pure ?_))))
  first
    | simp only [hsame, Bool.false_eq_true, if_false]
    | refine PySem.W.KFB.if_not hsame ?_
    | (dsimp only
       rw [if_neg (by rw [hsame]; exact Bool.false_ne_true)])
  refine wpAny_bind (m := Builtin.List.listAllItems (.ref b) "must assign iterable to extended slice") ?_
  unfold Builtin.List.listAllItems
  refine wpAny_bind (wpAny_typeOf hb.typeIs ?_)
  first
    | refine PySem.W.KFB.if_so (by decide) ?_
    | rw [if_pos (by decide)]
    | simp only [beq_self_eq_true, Bool.true_or, if_true]
  unfold Builtin.List.listItems
  refine wpAny_bind (wpAny_seqItems e2 rfl (wpAny_pure ?_))
  refine wpAny_bind (wpAny_bind (wpAny_seqItems e rfl (wpAny_pure ?_)))
  refine wpAny_bind (wpAny_of_eq ((sliceIndices_raw (some (a : Int)) (some (c : Int)) none items.size (by simp)).trans (congrArg (pure : Int × Int × Int → Sem (Int × Int × Int)) (bounds_run hac hc))) ?_)
  show wpAny _ _ (if ((1 : Int) == 1) = true then _ else _) _ _ s
  rw [if_pos (by decide)]
  refine wpAny_bind (wpAny_rule ?_)
  first
    | simp only [notLongL hsz, Bool.false_eq_true, if_false]
    | refine PySem.W.KFB.if_not (notLongL hsz) ?_
  first | refine wpAny_bind (wpAny_pure ?_) | skip
  show wpAny _ _ (updateSeq l (fun xs => xs.extract 0 ((a : Int)).toNat ++ new ++ xs.extract (max (a : Int) (c : Int)).toNat xs.size) >>= _) _ _ s
  rw [hmax, Int.toNat_natCast]
  refine wpAny_bind (wpAny_updateSeq (hz := Nat.le_trans (Nat.le_add_right _ _) hsz) (_hz' := hz') e rfl ?_)
  refine wpAny_bind (wpAny_letGo ?_)
  first
    | exact wpAny_bind (wpAny_pure (wpAny_pure ⟨.none, rfl, wpAny_pure h⟩))
    | exact wpAny_pure ⟨.none, rfl, wpAny_pure h⟩
end

section
variable {X : Cx}
/-- xs[a:c] = ys of another list, at the value level: sl is the slice object that was just made -/
theorem set_slice {pins : List (Addr × Obj)} {s : Shared} {σ : St} {H : Hp} {l b sl : Addr} {xs ys : List V} {a c : Int} {vl vu : Value} {Q : Unit → Shared → Prop} (I : Inv X pins σ H s)
    (hH : H l = some (.lst xs)) (hB : H b = some (.lst ys)) (hne : l ≠ b) (hs : s.heap.IsSliceOf sl vl vu .none) (ra : RelV (.int a) vl) (rc : RelV (.int c) vu) (h0 : 0 ≤ a) (hac : a ≤ c) (hc : c ≤ xs.length)
    (hz : xs.length + ys.length ≤ sizeLine) (h : ∀ s', Inv X pins σ (upd H l (.lst (xs.take a.toNat ++ ys ++ xs.drop c.toNat))) s' → Q () s') :
    wpAny (model X.prog X.w) X.A (setItem (.ref l) (.ref sl) (.ref b)) Q X.xe s := by
  obtain ⟨ta, rfl⟩ := ra
  obtain ⟨tc, rfl⟩ := rc
  obtain ⟨z, its, n, r, hl, e⟩ := I.lstM hH
  obtain ⟨z2, its2, n2, r2, hl2, e2⟩ := I.lstM hB
  obtain ⟨a', rfl⟩ := Int.eq_ofNat_of_zero_le h0
  obtain ⟨c', rfl⟩ := Int.eq_ofNat_of_zero_le (Int.le_trans h0 hac)
  simp only [Int.toNat_natCast] at h
  refine setItem_slice (a := a') (c := c') e e2 hne hs (.int _ _) (.int _ _) (by omega) (by rw [List.size_toArray]; omega) (by rw [List.size_toArray, List.size_toArray]; omega) (h _ ?_)
  refine I.lset (its' := its.take a' ++ its2 ++ its.drop c') (t' := s.toks) hH e ?_ (Vals.append (Vals.append (r.take _) r2) (r.drop _)) ?_
  · exact splice_eq its its2 a' c'
  · rw [List.length_append, List.length_append, List.length_take, List.length_drop]
    omega
end
end L2

namespace L2
open PySem PySem.Spec PyProof.Rows

/-! ### lists of pairs as tables -/
section
variable {κ : Type} [DecidableEq κ]
def valV (kvs : List (κ × V)) (k : κ) : Option V := (kvs.find? fun kv => decide (kv.1 = k)).map (·.2)
/-- in its place, or at the end -/
def putK (kvs : List (κ × V)) (k : κ) (v : V) : List (κ × V) :=
  if (kvs.any fun kv => decide (kv.1 = k)) = true then kvs.map (fun kv => if kv.1 = k then (kv.1, v) else kv) else kvs ++ [(k, v)]
def dropK (kvs : List (κ × V)) (k : κ) : List (κ × V) := kvs.filter fun kv => decide (kv.1 ≠ k)

theorem valV_nil {k : κ} : valV ([] : List (κ × V)) k = none := rfl
theorem valV_pos {p : κ × V} {r : List (κ × V)} {k : κ} (e : p.1 = k) : valV (p :: r) k = some p.2 := by simp [valV, List.find?_cons, e]
theorem valV_neg {p : κ × V} {r : List (κ × V)} {k : κ} (e : ¬ p.1 = k) : valV (p :: r) k = valV r k := by simp [valV, List.find?_cons, e]
theorem valV_any (k : κ) : ∀ kvs : List (κ × V), (kvs.any fun kv => decide (kv.1 = k)) = (valV kvs k).isSome
  | [] => rfl
  | p :: r => by
    rw [List.any_cons]
    by_cases e : p.1 = k
    · simp only [valV_pos e, decide_eq_true e, Bool.true_or, Option.isSome_some]
    · rw [valV_neg e, decide_eq_false e, Bool.false_or]; exact valV_any k r
theorem valV_map (k j : κ) (y : V) : ∀ kvs : List (κ × V), valV (kvs.map fun kv => if kv.1 = k then (kv.1, y) else kv) j = (valV kvs j).map fun x => if j = k then y else x
  | [] => rfl
  | p :: r => by
    have ih := valV_map k j y r
    rw [List.map_cons]
    by_cases h : p.1 = k
    · rw [if_pos h]
      by_cases e : p.1 = j
      · rw [valV_pos (p := (p.1, y)) e, valV_pos e, Option.map_some, if_pos (e.symm.trans h)]
      · rw [valV_neg (p := (p.1, y)) e, valV_neg e, ih]
    · rw [if_neg h]
      by_cases e : p.1 = j
      · rw [valV_pos (p := p) e, valV_pos e, Option.map_some, if_neg (fun z => h (e.trans z))]
      · rw [valV_neg (p := p) e, valV_neg e, ih]
theorem valV_snoc (k j : κ) (y : V) : ∀ kvs : List (κ × V), valV kvs k = none → valV (kvs ++ [(k, y)]) j = if j = k then some y else valV kvs j
  | [], _ => by
    by_cases e : k = j
    · rw [if_pos e.symm]; exact valV_pos (p := (k, y)) e
    · rw [if_neg (fun z => e z.symm)]; exact valV_neg (p := (k, y)) e
  | p :: r, hn => by
    rw [List.cons_append]
    have hk : ¬ p.1 = k := fun z => by rw [valV_pos z] at hn; cases hn
    rw [valV_neg hk] at hn
    have ih := valV_snoc k j y r hn
    by_cases e : p.1 = j
    · rw [valV_pos e, valV_pos e, if_neg (fun z => hk (e.trans z))]
    · rw [valV_neg e, valV_neg e, ih]
theorem valV_put (kvs : List (κ × V)) (k j : κ) (y : V) : valV (putK kvs k y) j = if j = k then some y else valV kvs j := by
  unfold putK
  by_cases a : (kvs.any fun kv => decide (kv.1 = k)) = true
  · rw [if_pos a, valV_map]
    rw [valV_any] at a
    by_cases e : j = k
    · obtain ⟨x, hx⟩ := Option.isSome_iff_exists.mp a
      rw [if_pos e, e, hx, Option.map_some, if_pos rfl]
    · rw [if_neg e]
      cases valV kvs j with
      | none => rfl
      | some x => rw [Option.map_some, if_neg e]
  · rw [if_neg a]
    refine valV_snoc k j y kvs ?_
    rw [valV_any] at a
    cases q : valV kvs k with
    | none => rfl
    | some x => rw [q] at a; exact (a rfl).elim
theorem length_putK (kvs : List (κ × V)) (k : κ) (v : V) : (putK kvs k v).length ≤ kvs.length + 1 := by
  unfold putK
  split
  · rw [List.length_map]; omega
  · rw [List.length_append, List.length_cons, List.length_nil]; omega
theorem putK_new {kvs : List (κ × V)} {k : κ} (v : V) (h : valV kvs k = none) : putK kvs k v = kvs ++ [(k, v)] := by
  unfold putK
  rw [valV_any, h]
  exact if_neg (by decide)

theorem RelO.isSome_eq {o : Option V} {u : Option Value} (r : RelO o u) : o.isSome = u.isSome := by
  cases o with
  | none => cases u with
    | none => rfl
    | some _ => exact (show False from r).elim
  | some _ => cases u with
    | none => exact (show False from r).elim
    | some _ => rfl
theorem RelO.getD {o : Option V} {u : Option Value} {d : V} {d' : Value} (r : RelO o u) (rd : RelV d d') : RelV (o.getD d) (u.getD d') := by
  cases o with
  | none => cases u with
    | none => exact rd
    | some _ => exact (show False from r).elim
  | some _ => cases u with
    | none => exact (show False from r).elim
    | some _ => exact r

/-- raw tables of the same keys -/
theorem KV.val {kvs : List (κ × V)} {vs : List (κ × Value)} (r : KV kvs vs) (k : κ) : RelO (valV kvs k) (valueAt vs k) := by
  unfold KV at r
  induction r with
  | nil => exact True.intro
  | @cons p q ps qs h t ih =>
    obtain ⟨h1, h2⟩ := h
    by_cases e : p.1 = k
    · have e' : q.1 = k := h1.symm.trans e
      have b : valueAt (q :: qs) k = some q.2 := by simp [valueAt, List.find?_cons, e']
      rw [valV_pos e, b]; exact h2
    · have e' : ¬ q.1 = k := fun z => e (h1.trans z)
      have b : valueAt (q :: qs) k = valueAt qs k := by simp [valueAt, List.find?_cons, e']
      rw [valV_neg e, b]; exact ih
theorem KV.any {kvs : List (κ × V)} {vs : List (κ × Value)} (r : KV kvs vs) (k : κ) : (kvs.any fun kv => decide (kv.1 = k)) = vs.any fun kv => decide (kv.1 = k) := by
  unfold KV at r
  induction r with
  | nil => rfl
  | cons h t ih => rw [List.any_cons, List.any_cons, ih, h.1]
theorem KV.repl {kvs : List (κ × V)} {vs : List (κ × Value)} (r : KV kvs vs) (k : κ) {y : V} {u : Value} (ry : RelV y u) :
    KV (kvs.map fun kv => if kv.1 = k then (kv.1, y) else kv) (vs.map fun kv => if kv.1 = k then (kv.1, u) else kv) := by
  unfold KV at r ⊢
  induction r with
  | nil => exact .nil
  | @cons p q ps qs h t ih =>
    rw [List.map_cons, List.map_cons]
    refine .cons ?_ ih
    obtain ⟨h1, h2⟩ := h
    by_cases e : p.1 = k
    · rw [if_pos e, if_pos (h1.symm.trans e)]; exact ⟨h1, ry⟩
    · rw [if_neg e, if_neg (fun z => e (h1.trans z))]; exact ⟨h1, h2⟩
theorem KV.put {kvs : List (κ × V)} {vs : List (κ × Value)} (r : KV kvs vs) (k : κ) {y : V} {u : Value} (ry : RelV y u) : KV (putK kvs k y) (stored vs k u) := by
  unfold putK stored
  rw [r.any k]
  by_cases e : (vs.any fun kv => decide (kv.1 = k)) = true
  · rw [if_pos e, if_pos e]; exact r.repl k ry
  · rw [if_neg e, if_neg e]; exact Paired.snoc r ⟨rfl, ry⟩
theorem KV.drop {kvs : List (κ × V)} {vs : List (κ × Value)} (r : KV kvs vs) (k : κ) : KV (dropK kvs k) (without vs k) := by
  unfold KV at r ⊢
  unfold dropK without
  induction r with
  | nil => exact .nil
  | @cons p q ps qs h t ih =>
    obtain ⟨h1, h2⟩ := h
    rw [List.filter_cons, List.filter_cons]
    by_cases e : p.1 = k
    · have a : ¬ decide (p.1 ≠ k) = true := by simp [e]
      have b : ¬ decide (q.1 ≠ k) = true := by simp [h1.symm.trans e]
      rw [if_neg a, if_neg b]; exact ih
    · have e' : ¬ q.1 = k := fun z => e (h1.trans z)
      have a : decide (p.1 ≠ k) = true := by simp [e]
      have b : decide (q.1 ≠ k) = true := by simp [e']
      rw [if_pos a, if_pos b]; exact .cons ⟨h1, h2⟩ ih
theorem KV.keys {kvs : List (κ × V)} {vs : List (κ × Value)} (r : KV kvs vs) : kvs.map (·.1) = vs.map (·.1) := by
  unfold KV at r
  induction r with
  | nil => rfl
  | cons h t ih => rw [List.map_cons, List.map_cons, ih, h.1]
theorem KV.length {kvs : List (κ × V)} {vs : List (κ × Value)} (r : KV kvs vs) : kvs.length = vs.length := Paired.length r
theorem dropK_le (kvs : List (κ × V)) (k : κ) : (dropK kvs k).length ≤ kvs.length := List.length_filter_le _ _
end


/-! ### a tracked dict, its keys ints and texts or tuples of these -/
theorem kV_is {P : Program} {w : World} {k : Key} {u : Value} (r : RelV (kV k) u) : (mixKind P w).is k u = true := by
  cases k with
  | inl i => obtain ⟨t, e⟩ := (show ∃ t, u = Value.int i t from r); subst e; exact mixKind_int P w i t
  | inr x => obtain ⟨t, e⟩ := (show ∃ t, u = Value.str x t from r); subst e; exact mixKind_str P w x t
theorem kV_inj {a b : Key} (e : kV a = kV b) : a = b := by
  cases a with
  | inl i => cases b with
    | inl j => have e' : V.int i = V.int j := e; injection e' with e'; rw [e']
    | inr y => exact nomatch (show V.int i = V.str y from e)
  | inr x => cases b with
    | inl j => exact nomatch (show V.str x = V.int j from e)
    | inr y => have e' : V.str x = V.str y := e; injection e' with e'; rw [e']
theorem kVs_inj : ∀ {a b : List Key}, a.map kV = b.map kV → a = b
  | [], [], _ => rfl
  | [], _ :: _, e => by simp at e
  | _ :: _, [], e => by simp at e
  | x :: xs, y :: ys, e => by
    rw [List.map_cons, List.map_cons] at e
    injection e with e1 e2
    rw [kV_inj e1, kVs_inj e2]
theorem items_are {P : Program} {w : World} : ∀ {ks : List Key} {us : List Value}, Vals (ks.map kV) us → ItemsAre (mixKind P w) ks us
  | [], _, r => by rw [List.map_nil] at r; cases r; exact .nil
  | k :: ks, _, r => by
    rw [List.map_cons] at r
    cases r with
    | cons h t => exact .cons (kV_is h) (items_are t)

/-- raw entries of a dict with tuple keys -/
abbrev KT (H : Hp) : List (List Key × V) → List (List Key × Addr × Value) → Prop := Paired fun p q => p.1 = q.1 ∧ H q.2.1 = some (.tup (p.1.map kV)) ∧ RelV p.2 q.2.2
theorem KT.val {H : Hp} {kvs : List (List Key × V)} {xs : List (List Key × Addr × Value)} (r : KT H kvs xs) (k : List Key) : RelO (valV kvs k) ((atKey xs k).map (·.2)) := by
  induction r with
  | nil => exact True.intro
  | @cons p q ps qs h t ih =>
    obtain ⟨h1, _, h2⟩ := h
    by_cases e : p.1 = k
    · have e' : q.1 = k := h1.symm.trans e
      have b : atKey (q :: qs) k = some q.2 := by simp [atKey, List.find?_cons, e']
      rw [valV_pos e, b]; exact h2
    · have e' : ¬ q.1 = k := fun z => e (h1.trans z)
      have b : atKey (q :: qs) k = atKey qs k := by simp [atKey, List.find?_cons, e']
      rw [valV_neg e, b]; exact ih
theorem KT.repl {H : Hp} {kvs : List (List Key × V)} {xs : List (List Key × Addr × Value)} (r : KT H kvs xs) (k : List Key) {y : V} {u : Value} (ry : RelV y u) :
    KT H (kvs.map fun kv => if kv.1 = k then (kv.1, y) else kv) (xs.map (putAt k u)) := by
  induction r with
  | nil => exact .nil
  | @cons p q ps qs h t ih =>
    rw [List.map_cons, List.map_cons]
    refine .cons ?_ ih
    obtain ⟨h1, h2, h3⟩ := h
    unfold putAt
    by_cases e : p.1 = k
    · rw [if_pos e, if_pos (h1.symm.trans e)]; exact ⟨h1, h2, ry⟩
    · rw [if_neg e, if_neg (fun z => e (h1.trans z))]; exact ⟨h1, h2, h3⟩
theorem KT.put {H : Hp} {kvs : List (List Key × V)} {xs : List (List Key × Addr × Value)} (r : KT H kvs xs) (k : List Key) {b : Addr} {y : V} {u : Value} (hb : H b = some (.tup (k.map kV))) (ry : RelV y u) :
    KT H (putK kvs k y) (storedH xs k b u) := by
  have e : (kvs.any fun kv => decide (kv.1 = k)) = (atKey xs k).isSome := by
    rw [valV_any, (r.val k).isSome_eq, Option.isSome_map]
  unfold putK storedH
  rw [e]
  by_cases q : (atKey xs k).isSome = true
  · rw [if_pos q, if_pos q]; exact r.repl k ry
  · rw [if_neg q, if_neg q]; exact Paired.snoc r ⟨rfl, hb, ry⟩
theorem KT.keeps {H H' : Hp} {kvs : List (List Key × V)} {xs : List (List Key × Addr × Value)} (r : KT H kvs xs) (ht : ∀ b ys, H b = some (.tup ys) → H' b = some (.tup ys)) : KT H' kvs xs :=
  Paired.mapP r fun _ _ z => ⟨z.1, ht _ _ z.2.1, z.2.2⟩

section
variable {P : Program} {w : World} {H : Hp} {h : Heap} {a : Addr}
theorem rd_of {u : HO} (ok : HOk P w H h) (e : Rd H a u) : ObjOk P w H h a u := e.ok ok
theorem dk_rd {kvs : List (Key × V)} (ok : HOk P w H h) (e : Rd H a (.dK kvs)) : kvs.length ≤ sizeLine ∧ (a == sysModules) = false ∧ ∃ vs, KV kvs vs ∧ h.DictOf (mixKind P w) a vs :=
  show ObjOk P w H h a (.dK kvs) from rd_of ok e
theorem dk_of {kvs : List (Key × V)} (ok : HOk P w H h) (e : H a = some (.dK kvs)) : kvs.length ≤ sizeLine ∧ (a == sysModules) = false ∧ ∃ vs, KV kvs vs ∧ h.DictOf (mixKind P w) a vs := dk_rd ok (.inl e)
/-- a tracked tuple of ints and texts is a key -/
theorem key_of {ks : List Key} (ok : HOk P w H h) (e : H a = some (.tup (ks.map kV))) : (tupleKind (mixKind P w)).is h ks a := by
  obtain ⟨_, its, r, o, h1, h2, n, h3⟩ := (show ObjOk P w H h a (.tup (ks.map kV)) from ok a _ e)
  exact ⟨o, its.toArray, n, h1, h2, h3, by simpa using items_are r⟩
theorem dt_rd {kvs : List (List Key × V)} (ok : HOk P w H h) (e : Rd H a (.dT kvs)) : kvs.length ≤ sizeLine ∧ (a == sysModules) = false ∧
    ∃ xs, KT H kvs xs ∧ h.DictOfH (tupleKind (mixKind P w)) a xs := by
  obtain ⟨z, y, xs, r, o, es, ep, h1, h2, h3, h4, h5⟩ := (show ObjOk P w H h a (.dT kvs) from rd_of ok e)
  refine ⟨z, y, xs, r, o, es, ep, h1, h2, h3, h4, fun x hx => ?_, h5⟩
  have all : ∀ {l : List (List Key × V)} {m : List (List Key × Addr × Value)}, KT H l m → ∀ x ∈ m, (tupleKind (mixKind P w)).is h x.1 x.2.1 := by
    intro l m q
    induction q with
    | nil => intro x hx; exact nomatch hx
    | @cons p q ps qs hq t ih =>
      intro x hx
      rcases List.mem_cons.mp hx with e | hx
      · subst e
        exact key_of ok (by rw [← hq.1]; exact hq.2.1)
      · exact ih x hx
  exact all r x hx
theorem dt_of {kvs : List (List Key × V)} (ok : HOk P w H h) (e : H a = some (.dT kvs)) : kvs.length ≤ sizeLine ∧ (a == sysModules) = false ∧
    ∃ xs, KT H kvs xs ∧ h.DictOfH (tupleKind (mixKind P w)) a xs := dt_rd ok (.inl e)
end

/-- what the dict at a holds at the key y -/
def DGet (H : Hp) (a : Addr) (y : V) (r : Option V) : Prop :=
  (∃ kvs k, Rd H a (.dK kvs) ∧ y = kV k ∧ r = valV kvs k) ∨ ∃ kvs k b, Rd H a (.dT kvs) ∧ y = .ref b ∧ H b = some (.tup (k.map kV)) ∧ r = valV kvs k
/-- the heap behind a[y] = v -/
def DPut (H : Hp) (a : Addr) (y v : V) (H' : Hp) : Prop :=
  (∃ kvs k, H a = some (.dK kvs) ∧ y = kV k ∧ kvs.length < sizeLine ∧ H' = upd H a (.dK (putK kvs k v))) ∨
  ∃ kvs k b, H a = some (.dT kvs) ∧ y = .ref b ∧ H b = some (.tup (k.map kV)) ∧ kvs.length < sizeLine ∧ H' = upd H a (.dT (putK kvs k v))
theorem DGet.k {H : Hp} {a : Addr} {kvs : List (Key × V)} {k : Key} (e : H a = some (.dK kvs)) : DGet H a (kV k) (valV kvs k) := .inl ⟨kvs, k, .inl e, rfl, rfl⟩
theorem DGet.t {H : Hp} {a b : Addr} {kvs : List (List Key × V)} {k : List Key} (e : H a = some (.dT kvs)) (eb : H b = some (.tup (k.map kV))) : DGet H a (.ref b) (valV kvs k) := .inr ⟨kvs, k, b, .inl e, rfl, eb, rfl⟩
theorem DPut.k {H : Hp} {a : Addr} {kvs : List (Key × V)} {k : Key} {v : V} (e : H a = some (.dK kvs)) (hl : kvs.length < sizeLine) : DPut H a (kV k) v (upd H a (.dK (putK kvs k v))) := .inl ⟨kvs, k, e, rfl, hl, rfl⟩
theorem DPut.t {H : Hp} {a b : Addr} {kvs : List (List Key × V)} {k : List Key} {v : V} (e : H a = some (.dT kvs)) (eb : H b = some (.tup (k.map kV))) (hl : kvs.length < sizeLine) :
    DPut H a (.ref b) v (upd H a (.dT (putK kvs k v))) := .inr ⟨kvs, k, b, e, rfl, eb, hl, rfl⟩


section
variable {X : Cx} {pins : List (Addr × Obj)} {σ : St} {H : Hp} {s : Shared} {a : Addr} {y v : V} {u r : Value} {o : Option V} {A : Around} {E : Value → Shared → Prop}

theorem Inv.big (I : Inv X pins σ H s) : sysModules < s.heap.objs.size := by
  have h : mainGlobals < s.heap.objs.size := (I.mod.glob.keeps I.bk).lt
  exact Nat.lt_trans (by decide) h

/-- d[y], there -/
theorem d_getItem {Q : Value → Shared → Prop} (hu : A.units + 1 < cLine) (I : Inv X pins σ H s) (g : DGet H a y (some v)) (ry : RelV y u) (h : ∀ w' s', Inv X pins σ H s' → RelV v w' → Q w' s') :
    wpAny (model X.prog X.w) A (getItem (.ref a) u) Q E s := by
  rcases g with ⟨kvs, k, e, ey, l⟩ | ⟨kvs, k, b, e, ey, eb, l⟩
  · subst ey
    obtain ⟨z, hd, vs, rel, dd⟩ := dk_rd I.hok e
    obtain ⟨w', hw, rw'⟩ := RelO.some_of (v := v) (o := valueAt vs k) (by rw [l]; exact rel.val k)
    exact wpAny_getItem_of (kV_is ry) dd.mapOf hw (h w' _ (I.tok _) rw')
  · subst ey
    cases (show u = Value.ref b from ry)
    obtain ⟨z, hd, xs, rel, dd⟩ := dt_rd I.hok e
    obtain ⟨w', hw, rw'⟩ := RelO.some_of (v := v) (o := (atKey xs k).map (·.2)) (by rw [l]; exact rel.val k)
    obtain ⟨p, hp, hp2⟩ := Option.map_eq_some_iff.mp hw
    refine wpAny_getItem_heap (tupleKind_room_in1 hu) (key_of I.hok eb) dd hp ?_
    rw [hp2]
    exact h w' _ (I.tok _) rw'
/-- y in d -/
theorem d_in {Q : Value → Shared → Prop} (hu : A.units + 1 < cLine) (I : Inv X pins σ H s) (g : DGet H a y o) (ry : RelV y u) (h : ∀ s', Inv X pins σ H s' → Q (.bool o.isSome) s') :
    wpAny (model X.prog X.w) A (compareOp .In u (.ref a)) Q E s := by
  rcases g with ⟨kvs, k, e, ey, l⟩ | ⟨kvs, k, b, e, ey, eb, l⟩
  · subst ey
    obtain ⟨z, hd, vs, rel, dd⟩ := dk_rd I.hok e
    refine wpAny_in_of (kV_is ry) hd dd.mapOf ?_
    rw [← (rel.val k).isSome_eq, ← l]
    exact h _ (I.tok _)
  · subst ey
    cases (show u = Value.ref b from ry)
    obtain ⟨z, hd, xs, rel, dd⟩ := dt_rd I.hok e
    refine wpAny_in_heap (tupleKind_room_in1 hu) (key_of I.hok eb) hd dd ?_
    have q := (rel.val k).isSome_eq
    rw [Option.isSome_map] at q
    rw [← q, ← l]
    exact h _ (I.tok _)
theorem d_notIn {Q : Value → Shared → Prop} (hu : A.units + 1 < cLine) (I : Inv X pins σ H s) (g : DGet H a y o) (ry : RelV y u) (h : ∀ s', Inv X pins σ H s' → Q (.bool (!o.isSome)) s') :
    wpAny (model X.prog X.w) A (compareOp .NotIn u (.ref a)) Q E s := by
  rcases g with ⟨kvs, k, e, ey, l⟩ | ⟨kvs, k, b, e, ey, eb, l⟩
  · subst ey
    obtain ⟨z, hd, vs, rel, dd⟩ := dk_rd I.hok e
    refine wpAny_notIn_of (kV_is ry) hd dd.mapOf ?_
    rw [← (rel.val k).isSome_eq, ← l]
    exact h _ (I.tok _)
  · subst ey
    cases (show u = Value.ref b from ry)
    obtain ⟨z, hd, xs, rel, dd⟩ := dt_rd I.hok e
    refine wpAny_notIn_heap (tupleKind_room_in1 hu) (key_of I.hok eb) hd dd ?_
    have q := (rel.val k).isSome_eq
    rw [Option.isSome_map] at q
    rw [← q, ← l]
    exact h _ (I.tok _)
/-- a dict's object is replaced -/
theorem d_write {h' : Heap} {t' : Nat} {ob : HO} (I : Inv X pins σ H s) (mu : Mut (H a)) (hs : Heap.SameBut a s.heap h') (he : ∃ q, h'.get? a = some q) (new : ObjOk X.prog X.w (upd H a ob) h' a ob) :
    Inv X pins σ (upd H a ob) { s with heap := h', toks := t' } :=
  I.write (x := a) (e := a) mu (.inl rfl) (fun b q hb z => (hs.2 b hb).trans z) he new
theorem dk_new {P : Program} {w : World} {H' : Hp} {h' : Heap} {kvs : List (Key × V)} {vs : List (Key × Value)} (z : kvs.length ≤ sizeLine) (hd : (a == sysModules) = false) (rel : KV kvs vs) (dd : h'.DictOf (mixKind P w) a vs) :
    ObjOk P w H' h' a (.dK kvs) := ⟨z, hd, vs, rel, dd⟩
/-- d[y] = v -/
theorem d_setItem {H' : Hp} {Q : Unit → Shared → Prop} (hu : A.units + 1 < cLine) (I : Inv X pins σ H s) (g : DPut H a y v H') (ry : RelV y u) (rv : RelV v r) (h : ∀ s', Inv X pins σ H' s' → Q () s') :
    wpAny (model X.prog X.w) A (setItem (.ref a) u r) Q E s := by
  rcases g with ⟨kvs, k, e, ey, l, eH⟩ | ⟨kvs, k, b, e, ey, eb, l, eH⟩
  · subst ey eH
    obtain ⟨z, hd, vs, rel, dd⟩ := dk_of I.hok e
    have hz : vs.length ≤ sizeLine := by rw [← rel.length]; exact z
    have hl : (putK kvs k v).length ≤ sizeLine := by have := length_putK kvs k v; omega
    refine wpAny_setItem_pairs (hsz := hz) (kV_is ry) dd fun h' dd' hs => h _ ?_
    have he : ∃ q, h'.get? a = some q := let ⟨q, _, _, hq, _⟩ := dd'; ⟨q, hq⟩
    exact d_write I (by rw [e]; exact True.intro) hs he (dk_new hl hd (rel.put k rv) dd')
  · subst ey eH
    cases (show u = Value.ref b from ry)
    obtain ⟨z, hd, xs, rel, dd⟩ := dt_of I.hok e
    have hz : xs.length ≤ sizeLine := by rw [← Paired.length rel]; exact z
    have hl : (putK kvs k v).length ≤ sizeLine := by have := length_putK kvs k v; omega
    refine wpAny_setItem_heap (hsz := hz) (tupleKind_room_in1 hu) (key_of I.hok eb) dd fun h' dd' hs => h _ ?_
    obtain ⟨q, es, ep, hq, h2, h3, h4, _, h5⟩ := dd'
    refine d_write I (by rw [e]; exact True.intro) hs ⟨q, hq⟩ ⟨hl, hd, _, (rel.put k eb rv).keeps fun c ys ec => ?_, q, es, ep, hq, h2, h3, h4, h5⟩
    rw [upd_ne (ne_of ec e (fun z => nomatch z))]
    exact ec
end

section
variable {X : Cx} {pins : List (Addr × Obj)} {σ : St} {H : Hp} {s : Shared} {a : Addr} {kvs : List (Key × V)} {k : Key} {u : Value} {A : Around} {E : Value → Shared → Prop}
/-- del d[k] -/
theorem d_delItem {Q : Unit → Shared → Prop} (I : Inv X pins σ H s) (e : H a = some (.dK kvs)) (ry : RelV (kV k) u) (l : (valV kvs k).isSome = true) (h : ∀ s', Inv X pins σ (upd H a (.dK (dropK kvs k))) s' → Q () s') :
    wpAny (model X.prog X.w) A (delItem (.ref a) u) Q E s := by
  obtain ⟨z, hd, vs, rel, dd⟩ := dk_of I.hok e
  refine wpAny_delItem_slot dd.typeIs (by decide) PySem.F.slot_dict_delitem
    (call_meetsIn PySem.F.slot_dict_delitem dd.typeIs PySem.F.entry_dict_delitem (PySem.F.args_dict_delitem_2 _ _) (meets_dict_delitem_pairs (mixKind X.prog X.w) a (kV_is ry)) ⟨vs, dd, by rw [← rel.length]; exact z, by rw [← (rel.val k).isSome_eq]; exact l, fun h' dd' hs => h _ ?_⟩)
  have he : ∃ q, h'.get? a = some q := let ⟨q, _, _, hq, _⟩ := dd'; ⟨q, hq⟩
  exact d_write I (by rw [e]; exact True.intro) hs he (dk_new (Nat.le_trans (dropK_le kvs k) z) hd (rel.drop k) dd')
/-- d.pop(k[, x]), there -/
theorem d_pop {v : V} {more : List Value} {Q : Value → Shared → Prop} (I : Inv X pins σ H s) (e : H a = some (.dK kvs)) (ry : RelV (kV k) u) (l : valV kvs k = some v) (hm : more = [] ∨ ∃ x, more = [x])
    (h : ∀ w' s', Inv X pins σ (upd H a (.dK (dropK kvs k))) s' → RelV v w' → Q w' s') : wpAny (model X.prog X.w) A (call (.builtin "dict.pop") (.ref a :: u :: more)) Q E s := by
  obtain ⟨z, hd, vs, rel, dd⟩ := dk_of I.hok e
  obtain ⟨w', hw, rw'⟩ := RelO.some_of (v := v) (o := valueAt vs k) (by rw [← l]; exact rel.val k)
  have hp : (keyPart u).isSome = true := by
    cases k with
    | inl i => obtain ⟨t, q⟩ := (show ∃ t, u = Value.int i t from ry); subst q; rfl
    | inr x => obtain ⟨t, q⟩ := (show ∃ t, u = Value.str x t from ry); subst q; rfl
  have ha : argsOk "dict.pop" ⟨.ref a :: u :: more, []⟩ := by
    rcases hm with q | ⟨x, q⟩
    · subst q; exact PySem.F.args_dict_pop_2 _ _
    · subst q; exact PySem.F.args_dict_pop_3 _ _ _
  refine call_meetsIn PySem.F.slot_dict_pop dd.typeIs PySem.F.entry_dict_pop ha (meets_dict_pop_there (mixKind X.prog X.w) a (kV_is ry) more hm hp)
    ⟨vs, w', dd, by rw [← rel.length]; exact z, hw, fun h' dd' hs => h w' _ ?_ rw'⟩
  have he : ∃ q, h'.get? a = some q := let ⟨q, _, _, hq, _⟩ := dd'; ⟨q, hq⟩
  exact d_write I (by rw [e]; exact True.intro) hs he (dk_new (Nat.le_trans (dropK_le kvs k) z) hd (rel.drop k) dd')
/-- d.pop(k, x), not there -/
theorem d_popD {r : Value} {Q : Value → Shared → Prop} (I : Inv X pins σ H s) (e : H a = some (.dK kvs)) (ry : RelV (kV k) u) (l : valV kvs k = none) (h : ∀ s', Inv X pins σ H s' → Q r s') :
    wpAny (model X.prog X.w) A (call (.builtin "dict.pop") [.ref a, u, r]) Q E s := by
  obtain ⟨z, hd, vs, rel, dd⟩ := dk_of I.hok e
  have hn : valueAt vs k = none := RelO.none_of (by rw [← l]; exact rel.val k)
  have hp : (keyPart u).isSome = true := by
    cases k with
    | inl i => obtain ⟨t, q⟩ := (show ∃ t, u = Value.int i t from ry); subst q; rfl
    | inr x => obtain ⟨t, q⟩ := (show ∃ t, u = Value.str x t from ry); subst q; rfl
  exact call_meetsIn PySem.F.slot_dict_pop dd.typeIs PySem.F.entry_dict_pop (PySem.F.args_dict_pop_3 _ _ _) (meets_dict_pop_default (mixKind X.prog X.w) a (kV_is ry) hd hp r) ⟨vs, dd, hn, h _ (I.tok _)⟩
/-- d.clear() -/
theorem d_clear {Q : Value → Shared → Prop} (I : Inv X pins σ H s) (e : H a = some (.dK kvs)) (h : ∀ s', Inv X pins σ (upd H a (.dK [])) s' → Q .none s') : wpAny (model X.prog X.w) A (call (.builtin "dict.clear") [.ref a]) Q E s := by
  obtain ⟨z, hd, vs, rel, dd⟩ := dk_of I.hok e
  refine call_meetsIn PySem.F.slot_dict_clear dd.typeIs PySem.F.entry_dict_clear (PySem.F.args_dict_clear_1 _) (meets_dict_clear (mixKind X.prog X.w) a) ⟨vs, dd, by rw [← rel.length]; exact z, fun h' dd' hs => h _ ?_⟩
  have he : ∃ q, h'.get? a = some q := let ⟨q, _, _, hq, _⟩ := dd'; ⟨q, hq⟩
  exact d_write (t' := s.toks) I (by rw [e]; exact True.intro) hs he (dk_new (Nat.zero_le _) hd .nil dd')
/-- len(d) -/
theorem d_len {Q : Value → Shared → Prop} (I : Inv X pins σ H s) (e : Rd H a (.dK kvs)) (h : ∀ t s', Inv X pins σ H s' → Q (.int kvs.length t) s') : wpAny (model X.prog X.w) A (call (.builtin "len") [.ref a]) Q E s := by
  obtain ⟨z, hd, vs, rel, dd⟩ := dk_rd I.hok e
  refine call_len_dict hd dd (by rw [← rel.length]; rw [sizeLine_eq] at z; omega) ?_
  rw [← rel.length]
  exact h _ _ (I.tok _)
/-- if d -/
theorem d_truth {Q : Bool → Shared → Prop} (I : Inv X pins σ H s) (e : Rd H a (.dK kvs)) (h : ∀ s', Inv X pins σ H s' → Q (!kvs.isEmpty) s') : wpAny (model X.prog X.w) A (truthy (.ref a)) Q E s := by
  obtain ⟨z, hd, vs, rel, dd⟩ := dk_rd I.hok e
  refine wpAny_truthy_dict hd dd (by rw [← rel.length]; rw [sizeLine_eq] at z; omega) ?_
  have q : kvs.isEmpty = vs.isEmpty := by cases rel <;> rfl
  rw [← q]
  exact h _ (I.tok _)
end


/-! ### readings and rules -/
/-- the element of a subscription, not a slice -/
def NoSl (i : Expr) : Prop := ∀ ov iv, subscripted i false ov iv = operate [ov, iv] (getItem ov iv)
theorem subD_of {prog : Program} {w : World} {A : Around} {E : Value → Shared → Prop} {s : Shared} {env : Env} {value slice : Expr} {pos : Pos} {T id : String} {Q : Value → Shared → Prop}
    (hl : typeLookup (.type T) "__getitem__" = pure (some (.builtin id))) (hs : NoSl slice)
    (h : wpAny (model prog w) A (eval value env) (fun o s₁ => wpAny (model prog w) A (eval slice env) (fun i s₂ => s₂.TypeIs o T ∧ wpAny (model prog w) A (getItem o i) Q E s₂) E s₁) E s) :
    wpAny (model prog w) A (eval (.Subscript value slice pos) env) Q E s := by
  refine Subscript_ (wpAny_mono h (fun o s₁ h₁ => wpAny_mono h₁ (fun i s₂ h₂ => ?_) fun _ _ x => x) fun _ _ x => x)
  obtain ⟨hT, h₂⟩ := h₂
  unfold subscriptTail
  refine wpAny_bind ?_
  rw [getitemInPython_of_ne hT.not_modules]
  refine wpAny_bind (wpAny_specialOf hT hl ?_)
  have fin : wpAny (model prog w) A (subscripted slice false o i) (fun r s₃ => wpAny (model prog w) A (letTemporaryGo value o r >>= fun _ => pure r) Q E s₃) E s₂ := by
    rw [hs o i]
    exact wpAny_operating (wpAny_mono h₂ (fun r s₃ h₃ => wpAny_bind (wpAny_letTemporaryGo (wpAny_pure h₃))) fun _ _ x => x)
  first
    | exact wpAny_pure (wpAny_bind fin)
    | exact wpAny_bind (wpAny_pure (wpAny_bind fin))
    | exact wpAny_bind fin

theorem dict_typeIs {X : Cx} {pins : List (Addr × Obj)} {σ : St} {H : Hp} {s : Shared} {a : Addr} {y : V} {o : Option V} (I : Inv X pins σ H s) (g : DGet H a y o) : s.TypeIs (.ref a) "dict" := by
  rcases g with ⟨kvs, k, e, _, _⟩ | ⟨kvs, k, b, e, _, _, _⟩
  · obtain ⟨_, _, vs, _, dd⟩ := dk_rd I.hok e
    exact dd.typeIs
  · obtain ⟨_, _, xs, _, dd⟩ := dt_rd I.hok e
    exact dd.typeIs
theorem dict_noDict {X : Cx} {pins : List (Addr × Obj)} {σ : St} {H : Hp} {s : Shared} {a : Addr} {y : V} {o : Option V} (I : Inv X pins σ H s) (g : DGet H a y o) :
    ∀ b, Value.ref a = .ref b → ∃ ob, s.heap.get? b = some ob ∧ ob.dict = none := fun b q => by
  cases q
  rcases g with ⟨kvs, k, e, _, _⟩ | ⟨kvs, k, b, e, _, _, _⟩
  · obtain ⟨_, _, vs, _, ob, _, _, h1, h2, _⟩ := dk_rd I.hok e
    exact ⟨ob, h1, h2.2.1⟩
  · obtain ⟨_, _, xs, _, ob, _, _, h1, h2, _⟩ := dt_rd I.hok e
    exact ⟨ob, h1, h2.2.1⟩

/-- d[y] -/
def tDGet (td ty : TE) : TE := fun σ H Q => td σ H fun x H1 => ty σ H1 fun y H2 => ∃ a v, x = .ref a ∧ DGet H2 a y (some v) ∧ Q v H2
/-- y in d, y not in d -/
def tDIn (ty td : TE) : TE := fun σ H Q => ty σ H fun y H1 => td σ H1 fun x H2 => ∃ a o, x = .ref a ∧ DGet H2 a y o ∧ Q (.bl o.isSome) H2
def tDNotIn (ty td : TE) : TE := fun σ H Q => ty σ H fun y H1 => td σ H1 fun x H2 => ∃ a o, x = .ref a ∧ DGet H2 a y o ∧ Q (.bl (!o.isSome)) H2
/-- d[y] = v -/
def sDPut (td ty tv : TE) : TS := fun D σ H => tv σ H fun v H1 => td σ H1 fun x H2 => ty σ H2 fun y H3 => ∃ a H4, x = .ref a ∧ DPut H3 a y v H4 ∧ D.nx σ H4
/-- d[y] op= v -/
def sDAug (td ty tv : TE) (rd : V → V → Hp → VK → Prop) : TS := fun D σ H => td σ H fun x H1 => ty σ H1 fun y H2 => ∃ a v, x = .ref a ∧ DGet H2 a y (some v) ∧
  tv σ H2 fun y2 H3 => rd v y2 H3 fun z H4 => ∃ H5, DPut H4 a y z H5 ∧ D.nx σ H5
/-- del d[y] -/
def sDDel (td ty : TE) : TS := fun D σ H => td σ H fun x H1 => ty σ H1 fun y H2 => ∃ a kvs k, x = .ref a ∧ H2 a = some (.dK kvs) ∧ y = kV k ∧ (valV kvs k).isSome = true ∧ D.nx σ (upd H2 a (.dK (dropK kvs k)))

section
variable {X : Cx} {o i e value : Expr} {pos pos' tpos : Pos} {td ty tv : TE}
theorem pe_dget (hu : X.A.units + 1 < cLine) (ho : PE X o td) (hi : PE X i ty) (hs : NoSl i) : PE X (.Subscript o i pos) (tDGet td ty) := by
  intro pins s σ H Q I h
  refine subD_of PySem.F.slot_dict_getitem.lookup hs (thn (ho pins s σ H _ I h) fun u s1 ⟨x, H1, I1, rx, q1⟩ => thn (hi pins s1 σ H1 _ I1 q1) fun iv s2 ⟨y, H2, I2, ry, a, v, ex, g, q2⟩ => ?_)
  subst ex
  obtain rfl : u = Value.ref a := rx
  exact ⟨dict_typeIs I2 g, d_getItem hu I2 g ry fun w' s3 I3 rw' => ⟨v, H2, I3, rw', q2⟩⟩
theorem pc_din (hu : X.A.units + 1 < cLine) (hi : PE X i ty) (ho : PE X o td) : PC X .In i o (tDIn ty td) := by
  intro pins s σ H Q I h
  refine thn (hi pins s σ H _ I h) fun iv s1 ⟨y, H1, I1, ry, q1⟩ => thn (ho pins s1 σ H1 _ I1 q1) fun u s2 ⟨x, H2, I2, rx, a, ov, ex, g, q2⟩ => ?_
  subst ex
  obtain rfl : u = Value.ref a := rx
  exact d_in hu I2 g ry fun s3 I3 => ⟨.bl ov.isSome, H2, I3, rfl, q2⟩
theorem pc_dnotin (hu : X.A.units + 1 < cLine) (hi : PE X i ty) (ho : PE X o td) : PC X .NotIn i o (tDNotIn ty td) := by
  intro pins s σ H Q I h
  refine thn (hi pins s σ H _ I h) fun iv s1 ⟨y, H1, I1, ry, q1⟩ => thn (ho pins s1 σ H1 _ I1 q1) fun u s2 ⟨x, H2, I2, rx, a, ov, ex, g, q2⟩ => ?_
  subst ex
  obtain rfl : u = Value.ref a := rx
  exact d_notIn hu I2 g ry fun s3 I3 => ⟨.bl (!ov.isSome), H2, I3, rfl, q2⟩
theorem ps_dput (hu : X.A.units + 1 < cLine) (ho : PE X o td) (hi : PE X i ty) (hv : PE X value tv) (hs : swapsWith value (some (.Subscript o i pos')) pos.line X.env = pure false) :
    PS X (.Assign [.Subscript o i pos'] value pos) (sDPut td ty tv) := by
  intro pins s σ H D I h
  refine wpAny_Assign_Subscript (thn (hv pins s σ H _ I h) fun r s1 ⟨v, H1, I1, rv, q1⟩ => thn (ho pins s1 σ H1 _ I1 q1) fun u s2 ⟨x, H2, I2, rx, q2⟩ => thn (hi pins s2 σ H2 _ I2 q2) fun iv s3 ⟨y, H3, I3, ry, a, H4, ex, g, q3⟩ => ?_) hs
  subst ex
  obtain rfl : u = Value.ref a := rx
  exact d_setItem hu I3 g ry rv fun s4 I4 => ⟨σ, H4, I4, q3⟩
theorem ps_daug {op : Operator} {rd : V → V → Hp → VK → Prop} (hu : X.A.units + 1 < cLine) (ho : PE X o td) (hi : PE X i ty) (hv : PE X value tv) (hop : InOp X op rd)
    (ha : ∀ ov iv new, augStore i ov iv new = (do holding [new, ov, iv] (setItem ov iv new); release [new, ov, iv] []; pure .next)) : PS X (.AugAssign (.Subscript o i tpos) op value pos) (sDAug td ty tv rd) := by
  intro pins s σ H D I h
  refine wpAny_AugAssign_SubscriptAny (thn (ho pins s σ H _ I h) fun u s1 ⟨x, H1, I1, rx, q1⟩ => thn (hi pins s1 σ H1 _ I1 q1) fun iv s2 ⟨y, H2, I2, ry, a, v, ex, g, q2⟩ => ?_) ha
  subst ex
  obtain rfl : u = Value.ref a := rx
  refine d_getItem hu I2 g ry fun w' s3 I3 rw' => thn (hv pins s3 σ H2 _ I3 q2) fun w2 s4 ⟨y2, H3, I4, ry2, q3⟩ => thn (hop pins s4 σ H3 v y2 w' w2 _ I4 rw' ry2 q3) fun w3 s5 ⟨z, H4, I5, rz, H5, g5, q4⟩ => ?_
  exact d_setItem hu I5 g5 ry rz fun s6 I6 => ⟨σ, H5, I6, q4⟩
theorem ps_ddel (ho : PE X o td) (hi : PE X i ty) : PS X (.Delete [.Subscript o i tpos] pos) (sDDel td ty) := by
  intro pins s σ H D I h
  refine wpAny_Delete (wpAny_deleteEach_cons (wpAny_delete_Subscript (thn (ho pins s σ H _ I h) fun u s1 ⟨x, H1, I1, rx, q1⟩ => thn (hi pins s1 σ H1 _ I1 q1) fun iv s2 ⟨y, H2, I2, ry, a, kvs, k, ex, e, ey, l, q2⟩ => ?_)))
  subst ex ey
  obtain rfl : u = Value.ref a := rx
  exact d_delItem I2 e ry l fun s3 I3 => wpAny_deleteEach_nil ⟨σ, _, I3, q2⟩
end


/-! ### displays -/
theorem dk_empty {P : Program} {w : World} {H : Hp} (h : Heap) (hb : sysModules < h.objs.size) : ObjOk P w H (h.push { cls := .type "dict", data := .dict #[] }) h.objs.size (.dK []) :=
  ⟨Nat.zero_le _, beq_eq_false_iff_ne.mpr (Ne.symm (Nat.ne_of_lt hb)), [], .nil, Heap.DictOf.new h⟩
theorem dt_empty {P : Program} {w : World} {H : Hp} (h : Heap) (hb : sysModules < h.objs.size) : ObjOk P w H (h.push { cls := .type "dict", data := .dict #[] }) h.objs.size (.dT []) :=
  ⟨Nat.zero_le _, beq_eq_false_iff_ne.mpr (Ne.symm (Nat.ne_of_lt hb)), [], .nil, _, #[], 0, Heap.get?_push_size _ rfl, ⟨rfl, rfl, rfl⟩, rfl, rfl, List.nodup_nil⟩
/-- {}, to be a dict of the kind that is wanted -/
def tDNewK : TE := fun _ H Q => ∀ p, H p = none → Q (.ref p) (upd H p (.dK []))
def tDNewT : TE := fun _ H Q => ∀ p, H p = none → Q (.ref p) (upd H p (.dT []))
section
variable {X : Cx} {pos : Pos}
theorem pe_dnewK : PE X (.Dict [] [] pos) tDNewK := fun pins s σ H Q I h =>
  wpAny_Dict_empty ⟨.ref s.heap.objs.size, _, I.laid (a := s.heap.objs.size) (o := .dK []) (t' := s.toks) (fun _ _ q => Heap.get?_push_of_some _ q) (Nat.le_refl _) (dk_empty s.heap I.big), rfl, h _ (I.hok.fresh (Nat.le_refl _))⟩
theorem pe_dnewT : PE X (.Dict [] [] pos) tDNewT := fun pins s σ H Q I h =>
  wpAny_Dict_empty ⟨.ref s.heap.objs.size, _, I.laid (a := s.heap.objs.size) (o := .dT []) (t' := s.toks) (fun _ _ q => Heap.get?_push_of_some _ q) (Nat.le_refl _) (dt_empty s.heap I.big), rfl, h _ (I.hok.fresh (Nat.le_refl _))⟩
end

/-- the pairs of a display, from the left -/
def tPairs : List (TE × TE) → St → Hp → (List (V × V) → Hp → Prop) → Prop
  | [], _, H, Q => Q [] H
  | (tk, tv) :: r, σ, H, Q => tk σ H fun x H1 => tv σ H1 fun y H2 => tPairs r σ H2 fun ps H3 => Q ((x, y) :: ps) H3
abbrev VV : List (V × V) → List (Value × Value) → Prop := Paired fun p q => RelV p.1 q.1 ∧ RelV p.2 q.2
def PPs (X : Cx) (pos : Pos) (keys : List (Option Expr)) (values : List Expr) (trs : List (TE × TE)) : Prop :=
  ∀ (pins : List (Addr × Obj)) (s : Shared) (σ : St) (H : Hp) (Q : List (V × V) → Hp → Prop), Inv X pins σ H s → tPairs trs σ H Q →
    wpAny (model X.prog X.w) X.A (evalPairs (pairTrees keys values X.env pos)) (fun vs s' => ∃ ps H', Inv X pins σ H' s' ∧ VV ps vs ∧ Q ps H') X.xe s
theorem pps_nil {X : Cx} {pos : Pos} : PPs X pos [] [] [] := fun pins s σ H Q I h => pairTrees_nil_walk ⟨[], H, I, .nil, h⟩
theorem pps_cons {X : Cx} {pos : Pos} {k v : Expr} {ks : List (Option Expr)} {vs : List Expr} {tk tv : TE} {trs : List (TE × TE)} (hk : PE X k tk) (hv : PE X v tv) (hr : PPs X pos ks vs trs) :
    PPs X pos (some k :: ks) (v :: vs) ((tk, tv) :: trs) := fun pins s σ H Q I h =>
  pairTrees_cons_walk (thn (hk pins s σ H _ I h) fun u s1 ⟨x, H1, I1, rx, q1⟩ => thn (hv pins s1 σ H1 _ I1 q1) fun w2 s2 ⟨y, H2, I2, ry, q2⟩ =>
    thn (hr pins s2 σ H2 _ I2 q2) fun ws s3 ⟨ps, H3, I3, rel, q3⟩ => ⟨(x, y) :: ps, H3, I3, .cons ⟨rx, ry⟩ rel, q3⟩)

def mergeK (kvs more : List (Key × V)) : List (Key × V) := more.foldl (fun acc kv => putK acc kv.1 kv.2) kvs
theorem KV.merge : ∀ {more : List (Key × V)} {rs : List (Key × Value)} {kvs : List (Key × V)} {vs : List (Key × Value)}, KV more rs → KV kvs vs → KV (mergeK kvs more) (merged vs rs) := by
  intro more rs kvs vs r
  unfold KV at r
  induction r generalizing kvs vs with
  | nil => intro q; exact q
  | @cons p q ps qs h t ih =>
    intro r0
    have e : KV (putK kvs p.1 p.2) (stored vs q.1 q.2) := by
      have := r0.put p.1 h.2
      rw [← h.1]; exact this
    exact ih e
theorem length_mergeK : ∀ (more kvs : List (Key × V)), (mergeK kvs more).length ≤ kvs.length + more.length
  | [], kvs => by show kvs.length ≤ kvs.length + 0; omega
  | p :: r, kvs => by
    have h1 := length_mergeK r (putK kvs p.1 p.2)
    have h2 := length_putK kvs p.1 p.2
    show (mergeK (putK kvs p.1 p.2) r).length ≤ _
    rw [List.length_cons]; omega
theorem carries_of {P : Program} {w : World} : ∀ {kvs : List (Key × V)} {ws : List (Value × Value)}, VV (kvs.map fun kv => (kV kv.1, kv.2)) ws → ∃ rs, Carries (mixKind P w) ws rs ∧ KV kvs rs
  | [], _, r => by rw [List.map_nil] at r; cases r; exact ⟨[], True.intro, .nil⟩
  | p :: kvs, _, r => by
    rw [List.map_cons] at r
    cases r with
    | @cons a b as bs h t =>
      obtain ⟨rs, c, q⟩ := carries_of (P := P) (w := w) t
      obtain ⟨b1, b2⟩ := b
      exact ⟨(p.1, b2) :: rs, ⟨kV_is h.1, rfl, c⟩, .cons ⟨rfl, h.2⟩ q⟩
/-- {k: v, ..} with keys ints and texts; the new dict stands empty while the pairs are made -/
def tDisp (trs : List (TE × TE)) : TE := fun σ H Q => ∀ p, H p = none → tPairs trs σ (upd H p (.dK [])) fun ps H2 => H2 p = some (.dK []) ∧ ∃ kvs : List (Key × V), ps = kvs.map (fun kv => (kV kv.1, kv.2)) ∧ kvs.length ≤ 15 ∧ Q (.ref p) (upd H2 p (.dK (mergeK [] kvs)))
theorem pe_disp {X : Cx} {pos : Pos} {keys : List (Option Expr)} {values : List Expr} {trs : List (TE × TE)} (h : PPs X pos keys values trs) (hall : keys.all (·.isSome) = true) (hl : keys.length = values.length) (h0 : keys ≠ [])
    (h15 : keys.length ≤ 15) : PE X (.Dict keys values pos) (tDisp trs) := by
  intro pins s σ H Q I q
  have hn := I.hok.fresh (Nat.le_refl s.heap.objs.size)
  have I1 := I.laid (a := s.heap.objs.size) (o := .dK []) (h' := s.heap.push { cls := .type "dict", data := .dict #[] }) (t' := s.toks) (fun _ _ q => Heap.get?_push_of_some _ q) (Nat.le_refl _) (dk_empty s.heap I.big)
  refine wpAny_Dict_walk (knd := mixKind X.prog X.w) hall hl h0 h15 (thn (h pins _ σ _ _ I1 (q _ hn)) fun ws s2 ⟨ps, H2, I2, rel, e, kvs, ep, lk, q2⟩ => ?_)
  subst ep
  obtain ⟨rs, c, rk⟩ := carries_of (P := X.prog) (w := X.w) rel
  obtain ⟨z, hd, vs0, r0, dd⟩ := dk_of I2.hok e
  cases r0
  refine ⟨rs, c, dd, fun h' dd' hs => ⟨.ref s.heap.objs.size, _, ?_, rfl, q2⟩⟩
  have hz : (mergeK [] kvs).length ≤ sizeLine := by
    have h1 := length_mergeK kvs []
    rw [List.length_nil] at h1
    rw [sizeLine_eq]; omega
  have he : ∃ q, h'.get? s.heap.objs.size = some q := let ⟨q, _, _, hq, _⟩ := dd'; ⟨q, hq⟩
  exact d_write I2 (by rw [e]; exact True.intro) hs he (dk_new hz hd (rk.merge .nil) dd')


/-! ### methods -/
/-- a method call o.m(e) of a built-in, with one argument: what must be seen of the text -/
structure M1 (X : Cx) (o : Expr) (m : Str) (apos : Pos) (e : Expr) (cpos : Pos) : Prop where
  base : attributeBase o m X.env (eval o X.env) = eval o X.env
  few : ((backTo cpos (starEach [e] X.env)).all (fun x => !x.1) && (backToKw cpos (keywordEach [] X.env)).all (fun x => x.1.isSome)
    && decide (([e] : List Expr).length + ([] : List Keyword).length + (if ([] : List Keyword).isEmpty then 0 else 1) < 30)) = true
  line : (apos.endLine == cpos.line) = true
  trees : backTo cpos (starEach [e] X.env) = [(false, eval e X.env)]
structure M2 (X : Cx) (o : Expr) (m : Str) (apos : Pos) (e f : Expr) (cpos : Pos) : Prop where
  base : attributeBase o m X.env (eval o X.env) = eval o X.env
  few : ((backTo cpos (starEach [e, f] X.env)).all (fun x => !x.1) && (backToKw cpos (keywordEach [] X.env)).all (fun x => x.1.isSome)
    && decide (([e, f] : List Expr).length + ([] : List Keyword).length + (if ([] : List Keyword).isEmpty then 0 else 1) < 30)) = true
  line : (apos.endLine == cpos.line) = true
  trees : backTo cpos (starEach [e, f] X.env) = [(false, eval e X.env), (false, eval f X.env)]

/-- a is a dict, whatever its keys -/
def IsD (H : Hp) (a : Addr) : Prop := (∃ kvs, Rd H a (.dK kvs)) ∨ ∃ kvs, Rd H a (.dT kvs)
theorem isD_at {X : Cx} {pins : List (Addr × Obj)} {σ : St} {H : Hp} {s : Shared} {a : Addr} (I : Inv X pins σ H s) (d : IsD H a) :
    s.TypeIs (.ref a) "dict" ∧ (∀ b, Value.ref a = .ref b → ∃ ob, s.heap.get? b = some ob ∧ ob.dict = none) ∧ (a == sysModules) = false := by
  rcases d with ⟨kvs, e⟩ | ⟨kvs, e⟩
  · obtain ⟨_, hd, vs, _, dd⟩ := dk_rd I.hok e
    refine ⟨dd.typeIs, fun b q => ?_, hd⟩
    cases q
    obtain ⟨ob, _, _, h1, h2, _⟩ := dd
    exact ⟨ob, h1, h2.2.1⟩
  · obtain ⟨_, hd, xs, _, dd⟩ := dt_rd I.hok e
    refine ⟨dd.typeIs, fun b q => ?_, hd⟩
    cases q
    obtain ⟨ob, _, _, h1, h2, _⟩ := dd
    exact ⟨ob, h1, h2.2.1⟩

section
variable {X : Cx} {pins : List (Addr × Obj)} {σ : St} {H : Hp} {s : Shared} {a : Addr} {y d : V} {u r : Value} {o : Option V} {A : Around} {E : Value → Shared → Prop}
/-- d.get(y) -/
theorem d_get1 {Q : Value → Shared → Prop} (hu : A.units + 1 < cLine) (I : Inv X pins σ H s) (g : DGet H a y o) (ry : RelV y u) (h : ∀ w' s', Inv X pins σ H s' → RelV (o.getD .non) w' → Q w' s') :
    wpAny (model X.prog X.w) A (call (.builtin "dict.get") [.ref a, u]) Q E s := by
  rcases g with ⟨kvs, k, e, ey, l⟩ | ⟨kvs, k, b, e, ey, eb, l⟩
  · subst ey
    obtain ⟨z, hd, vs, rel, dd⟩ := dk_rd I.hok e
    refine call_meetsIn PySem.F.slot_dict_get dd.typeIs PySem.F.entry_dict_get (PySem.F.args_dict_get_2 _ _) (meets_dict_get (mixKind X.prog X.w) a (kV_is ry) hd) ⟨_, dd.mapOf, h _ _ (I.tok _) ?_⟩
    rw [l]
    exact (rel.val k).getD rfl
  · subst ey
    cases (show u = Value.ref b from ry)
    obtain ⟨z, hd, xs, rel, dd⟩ := dt_rd I.hok e
    refine call_meetsIn PySem.F.slot_dict_get dd.typeIs PySem.F.entry_dict_get (PySem.F.args_dict_get_2 _ _) (meetsH_dict_get (tupleKind (mixKind X.prog X.w)) a b hd) ⟨tupleKind_room_in1 hu, k, xs, key_of I.hok eb, dd, h _ _ (I.tok _) ?_⟩
    rw [l]
    exact (rel.val k).getD rfl
/-- d.get(y, x) -/
theorem d_get2 {Q : Value → Shared → Prop} (hu : A.units + 1 < cLine) (I : Inv X pins σ H s) (g : DGet H a y o) (ry : RelV y u) (rd : RelV d r) (h : ∀ w' s', Inv X pins σ H s' → RelV (o.getD d) w' → Q w' s') :
    wpAny (model X.prog X.w) A (call (.builtin "dict.get") [.ref a, u, r]) Q E s := by
  rcases g with ⟨kvs, k, e, ey, l⟩ | ⟨kvs, k, b, e, ey, eb, l⟩
  · subst ey
    obtain ⟨z, hd, vs, rel, dd⟩ := dk_rd I.hok e
    refine call_meetsIn PySem.F.slot_dict_get dd.typeIs PySem.F.entry_dict_get (PySem.F.args_dict_get_3 _ _ _) (meets_dict_get_default (mixKind X.prog X.w) a (kV_is ry) hd r) ⟨_, dd.mapOf, h _ _ (I.tok _) ?_⟩
    rw [l]
    exact (rel.val k).getD rd
  · subst ey
    cases (show u = Value.ref b from ry)
    obtain ⟨z, hd, xs, rel, dd⟩ := dt_rd I.hok e
    refine call_meetsIn PySem.F.slot_dict_get dd.typeIs PySem.F.entry_dict_get (PySem.F.args_dict_get_3 _ _ _) (meetsH_dict_get_default (tupleKind (mixKind X.prog X.w)) a b hd r) ⟨tupleKind_room_in1 hu, k, xs, key_of I.hok eb, dd, h _ _ (I.tok _) ?_⟩
    rw [l]
    exact (rel.val k).getD rd
end

def tDGet1 (td ty : TE) : TE := fun σ H Q => td σ H fun x H1 => ∃ a, x = .ref a ∧ IsD H1 a ∧ ty σ H1 fun y H2 => ∃ o, DGet H2 a y o ∧ Q (o.getD .non) H2
def tDGet2 (td ty tx : TE) : TE := fun σ H Q => td σ H fun x H1 => ∃ a, x = .ref a ∧ IsD H1 a ∧ ty σ H1 fun y H2 => tx σ H2 fun z H3 => ∃ o, DGet H3 a y o ∧ Q (o.getD z) H3
/-- d.pop(k): there; d.pop(k, x): there or not -/
def tDPop1 (td ty : TE) : TE := fun σ H Q => td σ H fun x H1 => ∃ a, x = .ref a ∧ IsD H1 a ∧ ty σ H1 fun y H2 => ∃ kvs k v, H2 a = some (.dK kvs) ∧ y = kV k ∧ valV kvs k = some v ∧ Q v (upd H2 a (.dK (dropK kvs k)))
def tDPop2 (td ty tx : TE) : TE := fun σ H Q => td σ H fun x H1 => ∃ a, x = .ref a ∧ IsD H1 a ∧ ty σ H1 fun y H2 => tx σ H2 fun z H3 => ∃ kvs k, H3 a = some (.dK kvs) ∧ y = kV k ∧
  (∀ v, valV kvs k = some v → Q v (upd H3 a (.dK (dropK kvs k)))) ∧ (valV kvs k = none → Q z H3)
section
variable {X : Cx} {o e f : Expr} {apos cpos : Pos} {td ty tx : TE}
theorem pe_dget1 (hu : X.A.units + 1 < cLine) (ho : PE X o td) (he : PE X e ty) (m : M1 X o "get" apos e cpos) : PE X (.Call (.Attribute o "get" apos) [e] [] cpos) (tDGet1 td ty) := by
  intro pins s σ H Q I h
  refine wpAny_Call_method m.base m.few m.line PySem.F.plainAttrs_dict PySem.F.slot_dict_get PySem.F.type_dict_get (thn (ho pins s σ H _ I h) fun u s1 ⟨x, H1, I1, rx, a, ex, d, q1⟩ => ?_)
  subst ex
  obtain rfl : u = Value.ref a := rx
  obtain ⟨t1, t2, _⟩ := isD_at I1 d
  refine ⟨t1, t2, ?_⟩
  rw [m.trees]
  refine Calls.callWith_builtin rfl (Calls.evalArgs_plain (Calls.spliced_cons (thn (he pins s1 σ H1 _ I1 q1) fun iv s2 ⟨y, H2, I2, ry, ov, g, q2⟩ => Calls.spliced_nil ?_)))
  exact d_get1 hu I2 g ry fun w' s3 I3 rw' => ⟨_, H2, I3, rw', q2⟩
theorem pe_dget2 (hu : X.A.units + 1 < cLine) (ho : PE X o td) (he : PE X e ty) (hf : PE X f tx) (m : M2 X o "get" apos e f cpos) : PE X (.Call (.Attribute o "get" apos) [e, f] [] cpos) (tDGet2 td ty tx) := by
  intro pins s σ H Q I h
  refine wpAny_Call_method m.base m.few m.line PySem.F.plainAttrs_dict PySem.F.slot_dict_get PySem.F.type_dict_get (thn (ho pins s σ H _ I h) fun u s1 ⟨x, H1, I1, rx, a, ex, d, q1⟩ => ?_)
  subst ex
  obtain rfl : u = Value.ref a := rx
  obtain ⟨t1, t2, _⟩ := isD_at I1 d
  refine ⟨t1, t2, ?_⟩
  rw [m.trees]
  refine Calls.callWith_builtin rfl (Calls.evalArgs_plain (Calls.spliced_cons (thn (he pins s1 σ H1 _ I1 q1) fun iv s2 ⟨y, H2, I2, ry, q2⟩ =>
    Calls.spliced_cons (thn (hf pins s2 σ H2 _ I2 q2) fun fv s3 ⟨z, H3, I3, rz, ov, g, q3⟩ => Calls.spliced_nil ?_))))
  exact d_get2 hu I3 g ry rz fun w' s4 I4 rw' => ⟨_, H3, I4, rw', q3⟩
theorem pe_dpop1 (ho : PE X o td) (he : PE X e ty) (m : M1 X o "pop" apos e cpos) : PE X (.Call (.Attribute o "pop" apos) [e] [] cpos) (tDPop1 td ty) := by
  intro pins s σ H Q I h
  refine wpAny_Call_method m.base m.few m.line PySem.F.plainAttrs_dict PySem.F.slot_dict_pop PySem.F.type_dict_pop (thn (ho pins s σ H _ I h) fun u s1 ⟨x, H1, I1, rx, a, ex, d, q1⟩ => ?_)
  subst ex
  obtain rfl : u = Value.ref a := rx
  obtain ⟨t1, t2, _⟩ := isD_at I1 d
  refine ⟨t1, t2, ?_⟩
  rw [m.trees]
  refine Calls.callWith_builtin rfl (Calls.evalArgs_plain (Calls.spliced_cons (thn (he pins s1 σ H1 _ I1 q1) fun iv s2 ⟨y, H2, I2, ry, kvs, k, v, ea, ey, l, q2⟩ => Calls.spliced_nil ?_)))
  subst ey
  exact d_pop I2 ea ry l (.inl rfl) fun w' s3 I3 rw' => ⟨v, _, I3, rw', q2⟩
theorem pe_dpop2 (ho : PE X o td) (he : PE X e ty) (hf : PE X f tx) (m : M2 X o "pop" apos e f cpos) : PE X (.Call (.Attribute o "pop" apos) [e, f] [] cpos) (tDPop2 td ty tx) := by
  intro pins s σ H Q I h
  refine wpAny_Call_method m.base m.few m.line PySem.F.plainAttrs_dict PySem.F.slot_dict_pop PySem.F.type_dict_pop (thn (ho pins s σ H _ I h) fun u s1 ⟨x, H1, I1, rx, a, ex, d, q1⟩ => ?_)
  subst ex
  obtain rfl : u = Value.ref a := rx
  obtain ⟨t1, t2, _⟩ := isD_at I1 d
  refine ⟨t1, t2, ?_⟩
  rw [m.trees]
  refine Calls.callWith_builtin rfl (Calls.evalArgs_plain (Calls.spliced_cons (thn (he pins s1 σ H1 _ I1 q1) fun iv s2 ⟨y, H2, I2, ry, q2⟩ =>
    Calls.spliced_cons (thn (hf pins s2 σ H2 _ I2 q2) fun fv s3 ⟨z, H3, I3, rz, kvs, k, ea, ey, q3, q4⟩ => Calls.spliced_nil ?_))))
  subst ey
  cases l : valV kvs k with
  | some v => exact d_pop I3 ea ry l (.inr ⟨fv, rfl⟩) fun w' s4 I4 rw' => ⟨v, _, I4, rw', q3 v l⟩
  | none => exact d_popD I3 ea ry l fun s4 I4 => ⟨z, H3, I4, rz, q4 l⟩
end

/-! ### dict(d): a copy -/
section
variable {X : Cx} {pins : List (Addr × Obj)} {σ : St} {H : Hp} {s : Shared} {a : Addr} {kvs : List (Key × V)} {A : Around} {E : Value → Shared → Prop}
theorem d_copyOf {Q : Value → Shared → Prop} (I : Inv X pins σ H s) (e : Rd H a (.dK kvs)) (h : ∀ p s', H p = none → Inv X pins σ (upd H p (.dK kvs)) s' → Q (.ref p) s') : wpAny (model X.prog X.w) A (call (.type "dict") [.ref a]) Q E s := by
  obtain ⟨z, hd, vs, rel, dd⟩ := dk_rd I.hok e
  refine kt_call_dict hd dd (by rw [← rel.length]; exact z) fun h' dd' hs => ?_
  refine h _ _ (I.hok.fresh (Nat.le_refl _)) (I.laid (a := s.heap.objs.size) (o := .dK kvs) (t' := s.toks) (fun b q hq => ?_) (Nat.le_refl _) (dk_new z (beq_eq_false_iff_ne.mpr (Ne.symm (Nat.ne_of_lt I.big))) rel dd'))
  exact (hs.2 b (Nat.ne_of_lt (Heap.lt_size hq))).trans (Heap.get?_push_of_some _ hq)
end


section
variable {X : Cx} {pins : List (Addr × Obj)} {σ : St} {H : Hp} {s : Shared} {a : Addr} {y : V} {u : Value} {A : Around} {E : Value → Shared → Prop}
/-- d[y], not there: a KeyError -/
theorem d_missing {Q : Value → Shared → Prop} (hu : A.units + 1 < cLine) (hh : A.handled = none) (I : Inv X pins σ H s) (g : DGet H a y none) (ry : RelV y u)
    (h : ∀ h' e t', Heap.NewExc s.heap h' e "KeyError" → E (.ref e) { s with heap := h', toks := t' }) : wpAny (model X.prog X.w) A (getItem (.ref a) u) Q E s := by
  rcases g with ⟨kvs, k, e, ey, l⟩ | ⟨kvs, k, b, e, ey, eb, l⟩
  · subst ey
    obtain ⟨z, hd, vs, rel, dd⟩ := dk_rd I.hok e
    have hn : valueAt vs k = none := RelO.none_of (by rw [l]; exact rel.val k)
    exact wpAny_getItem_missing_of (kV_is ry) hd hh dd.mapOf hn fun h' ex ne => h h' ex _ ne
  · subst ey
    cases (show u = Value.ref b from ry)
    obtain ⟨z, hd, xs, rel, dd⟩ := dt_rd I.hok e
    have hn : (atKey xs k).map (·.2) = none := RelO.none_of (by rw [l]; exact rel.val k)
    exact wpAny_getItem_missing_heap (tupleKind_room_in1 hu) (key_of I.hok eb) hd hh dd (Option.map_eq_none_iff.mp hn) fun h' ex ne => h h' ex _ ne
end
end L2

namespace Att
open PySem PySem.W PySem.Calls PyProof.Rows

/-! ### the script -/
theorem ints_of_wellAll {P : Params} {h : Heap} : ∀ (ns : List Int) (vs : List Value), WellAll P h vs (ns.map WData.int) → IntsAre vs ns := by
  intro ns
  induction ns with
  | nil =>
    intro vs w
    rw [List.map_nil] at w
    cases w
    exact .nil
  | cons n ns ih =>
    intro vs w
    rw [List.map_cons] at w
    cases w with
    | cons a b =>
      cases a
      exact .cons _ _ (ih _ b)

theorem script_of {l : OpenLaw} {n : Nat} (hn : l.most = some n) {P : Params} {h : Heap} {args : List WData} {vals : List Value}
    (hpre : l.row.toRowW.claim.pre args = true) (hwl : WellAll P h vals args) :
    ∃ a vs ns, vals = [Value.ref a] ∧ args = [WData.list (ns.map WData.int)] ∧ h.get? a = some { cls := .type "list", data := .seq vs.toArray } ∧ IntsAre vs ns ∧ ns.length ≤ n := by
  have hsh : WShape.hasAll [] args [.list .int] = true := (pre_splitW hpre).1
  have hc : l.pre.holds [] { args := args } = true := (pre_splitW hpre).2
  obtain ⟨d, r, rfl, h1, h2⟩ := hasAllW_cons hsh
  obtain rfl := hasAllW_nil h2
  obtain ⟨xs, rfl, h3⟩ := hasW_list h1
  obtain ⟨ns, rfl⟩ := items_int h3
  have hlen : ns.length ≤ n := by
    unfold OpenLaw.pre at hc
    have h4 : (WTm.not (.lt (.lit (.int (n : Int))) (.len (.arg 0)))).holds [] { args := [.list (ns.map .int)] } = true := by
      have h4 := (holds_andW hc).1
      rw [hn] at h4
      exact h4
    have h5 := condW_of h4 (w_not (w_lt w_lit (w_len_list (w_arg rfl))))
    rw [List.length_map] at h5
    refine Nat.le_of_not_lt fun q => ?_
    have q' : (n : Int) < ((ns.length : Nat) : Int) := by omega
    first
      | (rw [decide_eq_true q'] at h5; exact absurd h5 (by decide))
      | (simp at h5; omega)
  cases hwl with
  | cons w1 w2 =>
    cases w2
    cases w1 with
    | list ho hall => exact ⟨_, _, ns, rfl, rfl, ho, ints_of_wellAll ns _ hall, hlen⟩

theorem post_true (l : OpenLaw) (args : List WData) : l.row.toRowW.claim.post args (.bool true) args = true :=
  postW_of (r := l.row.toRowW) (X := (true == true))
    (show WShape.has [] (.bool true) .bool = true by first | rfl | decide | simp [WShape.has, WShape.arms, WShape.armsAll])
    (show (WTm.eq .res (.lit (.bool true))).value [] { args := args, res := some (.bool true), after := args } = some (.bool (true == true)) from w_eq_bool (w_res rfl) w_lit) rfl

/-! ### the attachment: holds_open's last premise (the goal 'hc' behind k_head) from a wpAny of the law's body -/
theorem attach {l : OpenLaw} {n : Nat} {q : Program} {loose : List Str} {XP : (Str → Option Value) → Heap → Prop} {YP : World → Heap → Prop} {d : DefRec} {x : Str}
    (hn : l.most = some n) (hdf : d.params.defaults = [])
    (hbind : ∀ pm cd doc v : Value, bindArgs (docDef d.name d.params d.body d.scope pm cd doc) ⟨[v], []⟩ = pure [(x, v)])
    (hx : d.scope.names.lookup x = some .local ∨ d.scope.names.lookup x = some .cell)
    (hk : d.scope.kind = .function) (hco : d.scope.isCoroutine = false) (hgen : d.scope.isGenerator = false)
    (body : ∀ (w : World) (s₀ s₁ s : Shared) (mg mb : Str → Option Value) (fa : Addr) (o : Obj) (pm cd doc : Value) (a : Addr) (vs : List Value) (ns : List Int),
      Ground q loose [] XP w s₀ mg mb s₁.heap → YP w s₁.heap →
      s₁.heap.get? fa = some o → o.data = .func (docDef d.name d.params d.body d.scope pm cd doc) → s₁.heap.CodeRec cd d.name → mg d.name = some (.ref fa) →
      s₁.heap.get? a = some { cls := .type "list", data := .seq vs.toArray } → IntsAre vs ns → ns.length ≤ n →
      s.gens = #[] → s.os = s₁.os →
      Fr s₁.heap s₁.heap.objs.size s.heap (bindL (envOfC d.name d.scope s₁.heap.objs.size fa cd).kindOf [(x, .ref a)] fun _ => none) →
      Cl s₁.heap.objs.size (cellsFrom (s₁.heap.objs.size + 1) d.scope.names []) s.heap (bindC (envOfC d.name d.scope s₁.heap.objs.size fa cd).kindOf [(x, .ref a)] fun _ => none) →
      wpAny (model l.prog w) (callerA.deeper (envOfC d.name d.scope s₁.heap.objs.size fa cd)) (execs d.body (envOfC d.name d.scope s₁.heap.objs.size fa cd))
        (fun f s' => f = .ret (.bool true) ∧ OldK s₁.heap s'.heap ∧ s'.os = s₁.os ∧ AllBare s'.gens) (fun _ _ => False) s) :
    WalkO q loose XP YP l.row.toRowW d [] (fun f vs => PySem.call f vs) := by
  intro w s₀ s₁ mg mb G Y fa o pm cd doc dV kV ho hd hcd hD hmg hg args vals as hpre hlay hrd hwl hlo
  obtain rfl : dV = .none := Dflts.none hD hdf
  obtain rfl : kV = .none := Dflts.noKw hD
  obtain ⟨a, vs, ns, rfl, rfl, hobj, hints, hlen⟩ := script_of hn hpre hwl
  refine enter_call ?_
  refine call_cells_ret (o := o) (by rw [depth_caller]; decide) ho (fd_plain hd) G.T.nolimit hcd (hbind pm cd doc (.ref a)) (fun y hy => ?_) (fun h₁ tk F X => ?_) hco hgen hk
  · obtain rfl : y = (x, Value.ref a) := List.mem_singleton.mp hy
    rcases hx with e | e
    · exact .inl e
    · exact .inr ⟨e, cellsFrom_some _ _ _ (.inl e)⟩
  · refine wpAny_mono (body w s₀ s₁ { s₁ with heap := h₁, toks := tk } mg mb fa o pm cd doc a vs ns G Y ho (fd_plain hd) hcd hmg hobj hints hlen hg rfl F X) (fun f s' hq => ?_) (fun _ _ hq => hq)
    obtain ⟨rfl, h2, h3, h4⟩ := hq
    exact ⟨.inl ⟨.bool true, .bool true, [], rfl, fun _ => rfl, .bool true, post_true l _, fun _ => ⟨List.Pairwise.nil, fun _ hm => (nomatch hm)⟩⟩, h2, h3, h4⟩

/-- the same from a codeAny of the CALL (for a layer whose function contracts speak of calls) -/
theorem attach_call {l : OpenLaw} {n : Nat} {q : Program} {loose : List Str} {XP : (Str → Option Value) → Heap → Prop} {YP : World → Heap → Prop} {d : DefRec}
    (hn : l.most = some n) (hdf : d.params.defaults = [])
    (call : ∀ (w : World) (s₀ s₁ : Shared) (mg mb : Str → Option Value) (fa : Addr) (o : Obj) (pm cd doc : Value) (a : Addr) (vs : List Value) (ns : List Int),
      Ground q loose [] XP w s₀ mg mb s₁.heap → YP w s₁.heap →
      s₁.heap.get? fa = some o → o.data = .func (docDef d.name d.params d.body d.scope pm cd doc) → s₁.heap.CodeRec cd d.name → mg d.name = some (.ref fa) →
      s₁.heap.get? a = some { cls := .type "list", data := .seq vs.toArray } → IntsAre vs ns → ns.length ≤ n → s₁.gens = #[] →
      codeAny (model l.prog w) callerA (.call (.ref fa) ⟨[.ref a], []⟩) (fun r s' => r = .ok (.ret (.bool true)) ∧ OldK s₁.heap s'.heap ∧ s'.os = s₁.os ∧ AllBare s'.gens) s₁) :
    WalkO q loose XP YP l.row.toRowW d [] (fun f vs => PySem.call f vs) := by
  intro w s₀ s₁ mg mb G Y fa o pm cd doc dV kV ho hd hcd hD hmg hg args vals as hpre hlay hrd hwl hlo
  obtain rfl : dV = .none := Dflts.none hD hdf
  obtain rfl : kV = .none := Dflts.noKw hD
  obtain ⟨a, vs, ns, rfl, rfl, hobj, hints, hlen⟩ := script_of hn hpre hwl
  refine enter_call (codeAny_mono (call w s₀ s₁ mg mb fa o pm cd doc a vs ns G Y ho (fd_plain hd) hcd hmg hobj hints hlen hg) fun r s' hq => ?_)
  obtain ⟨rfl, h2, h3, h4⟩ := hq
  exact ⟨.inl ⟨.bool true, .bool true, [], rfl, fun _ => rfl, .bool true, post_true l _, fun _ => ⟨List.Pairwise.nil, fun _ hm => (nomatch hm)⟩⟩, h2, h3, h4⟩

/-- the same where the top left finished generators (o_head chose holds_openN): nothing may have changed at all and no generator may be left -/
theorem attachN {l : OpenLaw} {n : Nat} {q : Program} {loose : List Str} {XP : (Str → Option Value) → Heap → Prop} {YP : World → Heap → Prop} {d : DefRec} {x : Str}
    (hn : l.most = some n) (hdf : d.params.defaults = [])
    (hbind : ∀ pm cd doc v : Value, bindArgs (docDef d.name d.params d.body d.scope pm cd doc) ⟨[v], []⟩ = pure [(x, v)])
    (hx : d.scope.names.lookup x = some .local ∨ d.scope.names.lookup x = some .cell)
    (hk : d.scope.kind = .function) (hco : d.scope.isCoroutine = false) (hgen : d.scope.isGenerator = false)
    (body : ∀ (w : World) (s₀ s₁ s : Shared) (mg mb : Str → Option Value) (fa : Addr) (o : Obj) (pm cd doc : Value) (a : Addr) (vs : List Value) (ns : List Int),
      Ground q loose [] XP w s₀ mg mb s₁.heap → YP w s₁.heap →
      s₁.heap.get? fa = some o → o.data = .func (docDef d.name d.params d.body d.scope pm cd doc) → s₁.heap.CodeRec cd d.name → mg d.name = some (.ref fa) →
      s₁.heap.get? a = some { cls := .type "list", data := .seq vs.toArray } → IntsAre vs ns → ns.length ≤ n →
      s.gens = #[] → s.os = s₁.os →
      Fr s₁.heap s₁.heap.objs.size s.heap (bindL (envOfC d.name d.scope s₁.heap.objs.size fa cd).kindOf [(x, .ref a)] fun _ => none) →
      Cl s₁.heap.objs.size (cellsFrom (s₁.heap.objs.size + 1) d.scope.names []) s.heap (bindC (envOfC d.name d.scope s₁.heap.objs.size fa cd).kindOf [(x, .ref a)] fun _ => none) →
      wpAny (model l.prog w) (callerA.deeper (envOfC d.name d.scope s₁.heap.objs.size fa cd)) (execs d.body (envOfC d.name d.scope s₁.heap.objs.size fa cd))
        (fun f s' => f = .ret (.bool true) ∧ (∀ b o, s₁.heap.get? b = some o → s'.heap.get? b = some o) ∧ s'.os = s₁.os ∧ s'.gens = #[]) (fun _ _ => False) s) :
    WalkN q loose XP YP l.row.toRowW d [] (fun f vs => PySem.call f vs) := by
  intro w s₀ s₁ mg mb G Y fa o pm cd doc dV kV ho hd hcd hD hmg hg args vals as hpre hlay hrd hwl hlo
  obtain rfl : dV = .none := Dflts.none hD hdf
  obtain rfl : kV = .none := Dflts.noKw hD
  obtain ⟨a, vs, ns, rfl, rfl, hobj, hints, hlen⟩ := script_of hn hpre hwl
  refine enter_callW ?_
  refine call_cells_ret (o := o) (by rw [depth_caller]; decide) ho (fd_plain hd) G.T.nolimit hcd (hbind pm cd doc (.ref a)) (fun y hy => ?_) (fun h₁ tk F X => ?_) hco hgen hk
  · obtain rfl : y = (x, Value.ref a) := List.mem_singleton.mp hy
    rcases hx with e | e
    · exact .inl e
    · exact .inr ⟨e, cellsFrom_some _ _ _ (.inl e)⟩
  · refine wpAny_mono (body w s₀ s₁ { s₁ with heap := h₁, toks := tk } mg mb fa o pm cd doc a vs ns G Y ho (fd_plain hd) hcd hmg hobj hints hlen hg rfl F X) (fun f s' hq => ?_) (fun _ _ hq => hq)
    obtain ⟨rfl, h2, h3, h4⟩ := hq
    exact ⟨.inl ⟨.bool true, .bool true, [], rfl, fun _ => rfl, .bool true, post_true l _, fun _ => ⟨List.Pairwise.nil, fun _ hm => (nomatch hm)⟩⟩, h2, h3, h4⟩

/-! ### rules over ANY heap (no ledger) from facts about the written part K: the library's own take a ledger (News) for what they write -/
section
variable {prog : Program} {w : World} {A : Around} {E : Value → Shared → Prop} {s : Shared} {K : Frag}

/-- a def of the module, or a method (qual 'C.m'), entered: the frame is the next address; cells behind it -/
theorem call_fn {R : Result → Shared → Prop} {name qual : Str} {params : Arguments} {body : List Stmt} {scope : Scope} {dV kV doc pm cdv ct oc : Value} {an od : Option Addr} {osl : Array (Option Value)} {f : Addr} {args : Args} {binds : List (Str × Value)}
    (X : K.In s.heap) (hlim : s.heap.NoLimit) (ho : K.lookup f = some ⟨oc, od, .func (fnOf name qual params body scope dV kV doc pm an cdv ct), osl⟩) (hcd : codeIn K cdv qual = true) (hroom : A.depth < recursionLimit)
    (hbind : BindsTo s (fnOf name qual params body scope dV kV doc pm an cdv ct) args binds)
    (hkind : (binds.all fun y => scope.names.lookup y.1 == some .local || scope.names.lookup y.1 == some .cell) = true)
    (h : ∀ s₁, InCallC s s.heap.objs.size (bindL (envOfC qual scope s.heap.objs.size f cdv).kindOf binds fun _ => none) (cellsFrom (s.heap.objs.size + 1) scope.names [])
        (bindC (envOfC qual scope s.heap.objs.size f cdv).kindOf binds fun _ => none) s₁ →
      wpAny (model prog w) (A.deeper (envOfC qual scope s.heap.objs.size f cdv)) (execs body (envOfC qual scope s.heap.objs.size f cdv))
        (fun fl s' => R (.ok (.ret (match fl with | .ret v => v | _ => .none))) s')
        (fun e s' => wpAny (model prog w) (A.deeper (envOfC qual scope s.heap.objs.size f cdv)) (leaving (envOfC qual scope s.heap.objs.size f cdv) e) (fun _ s'' => R (.error e) s'') (fun e' s'' => R (.error e') s'') s') s₁)
    (hco : scope.isCoroutine = false) (hgen : scope.isGenerator = false) (hk : scope.kind = .function) : codeAny (model prog w) A (.call (.ref f) args) R s := by
  refine codeAny_call_function hroom (X _ _ ho) rfl hco hgen rfl (codeRec_of X hcd) (hbind _ _ _ _ ?_)
  refine wpAny_newFunctionEnv_cells hk (kindsX hkind _) fun env he s₁ x => ?_
  subst he
  exact ⟨hlim.keeps x.toInCall.keep, codeAny_func (h s₁ x)⟩

/-- C(..): dict at size, instance at size + 1, then __init__ -/
theorem make_obj {R : Result → Shared → Prop} {C fI : Addr} {rest : List Value} {kw : List (Str × Value)}
    (X : K.In s.heap) (hm : makesIn K C = true) (hi : findIn K (.ref C) "__init__" = some (some (.ref fI))) (hf : isFn K (.ref fI) = true)
    (h : codeAny (model prog w) (A.under (.builtin "type.__call__" ⟨.ref C :: rest, kw⟩)) (.call (.ref fI) ⟨.ref (s.heap.objs.size + 1) :: rest, kw⟩) (InitBack (s.heap.objs.size + 1) R)
      { s with heap := (s.heap.push emptyDict).push (instObj C s.heap.objs.size) }) : codeAny (model prog w) A (.call (.ref C) ⟨rest, kw⟩) R s := by
  obtain ⟨hh, g, d, t, os⟩ := s
  exact make_core (makes_of X hm) (looks_findIn X hi) (fun self => bind_fn X self (beq_iff_eq.mp hf)) (.inl rfl) h

/-- x.name where the instance's dict holds the name and the class does not -/
theorem get_field {x C : Addr} {ox : Obj} {es : List DictEntry} {n : Nat} {name : Str} {expr : Bool} {v : Value} {Q : Value → Shared → Prop}
    (X : K.In s.heap) (I : PySem.W.InstAt s.heap x ox C (some (dictOf es n))) (hg : plainGet K C name = true) (hh : hasDictIn K C = true) (ha : findIn K (.ref C) name = some none)
    (hl : getL name es = some (some v)) (hv : handedIn v = true) (h : Q v { s with toks := s.toks + 1 }) : wpAny (model prog w) A (getAttr (.ref x) name expr) Q E s :=
  get_value X I (plainGet_of hg).1 (findObj_own hh ha rfl hl) hv h

/-- x.m(..): the method found in the class -/
theorem get_method {x C f : Addr} {ox : Obj} {es : List DictEntry} {n : Nat} {name : Str} {pl : Sem Bool} {Q : Value × List Value → Shared → Prop}
    (X : K.In s.heap) (I : PySem.W.InstAt s.heap x ox C (some (dictOf es n))) (hg : plainGet K C name = true) (hf : findIn K (.ref C) name = some (some (.ref f))) (ht : isFn K (.ref f) = true)
    (hl : getL name es = some none) (h : Q (.ref f, [.ref x]) s) : wpAny (model prog w) A (getMethod (.ref x) name pl) Q E s :=
  method_fn X I (plainGet_of hg).1 (plainGet_of hg).2 hf (beq_iff_eq.mp ht) (by show (lookIn name (dictOf es n)).map _ = _; rw [lookIn_dict, hl]; rfl) h

/-! the whole heap as the ledger: makes every rule that writes through a ledger a rule over any heap -/
def noObjs (h : Heap) : Heap := { h with objs := #[] }
theorem noObjs_get (h : Heap) (b : Addr) : (noObjs h).get? b = none := by
  cases e : (noObjs h).get? b with
  | none => rfl
  | some o => exact absurd (Heap.lt_size e) (Nat.not_lt_zero _)
def ledger (h : Heap) (L d : Addr) : List (Addr × Obj) := (List.range h.objs.size).filterMap fun a => if a = L ∨ a = d then none else (h.get? a).map fun o => (a, o)
theorem mem_ledger {h : Heap} {L d a : Addr} {o : Obj} : (a, o) ∈ ledger h L d ↔ a ≠ L ∧ a ≠ d ∧ h.get? a = some o := by
  unfold ledger
  rw [List.mem_filterMap]
  constructor
  · rintro ⟨b, _, e⟩
    split at e
    · cases e
    · rename_i hb
      obtain ⟨o', ho, e'⟩ := Option.map_eq_some_iff.mp e
      cases e'
      exact ⟨fun q => hb (.inl q), fun q => hb (.inr q), ho⟩
  · rintro ⟨n1, n2, ho⟩
    refine ⟨a, List.mem_range.mpr (Heap.lt_size ho), ?_⟩
    rw [if_neg (show ¬ (a = L ∨ a = d) from fun q => q.elim n1 n2), ho] <;> rfl
theorem news_ledger {h : Heap} {L d : Addr} {od : Obj} (hne : d ≠ L) (ho : h.get? d = some od) : News (noObjs h) L h ([] ++ (d, od) :: ledger h L d) := by
  rintro ⟨a, o⟩ hp
  rcases List.mem_cons.mp hp with e | hp
  · cases e
    exact ⟨ho, hne, noObjs_get _ _⟩
  · obtain ⟨n1, n2, e⟩ := mem_ledger.mp hp
    exact ⟨e, n1, noObjs_get _ _⟩
theorem fr_all {h : Heap} {L : Addr} {m : Str → Option Value} (n : h.Ns L m) : Fr (noObjs h) L h m :=
  ⟨n, fun b o e => (by rw [noObjs_get] at e; cases e), Nat.zero_le _⟩
/-- Upd of the head entry (for append_K, setItem_K ..) -/
theorem upd_ledger {h : Heap} {L d : Addr} {o o' : Obj} : Upd d o o' ((d, o) :: ledger h L d) ((d, o') :: ledger h L d) :=
  .head fun ⟨_, _⟩ hp => (mem_ledger.mp hp).2.1

/-- x.name = v over any heap: L is any namespace of the heap (the frame's, say): its map stays, its object is not told; all else but the dict stays -/
theorem set_field {x C dx L : Addr} {ox : Obj} {m : Str → Option Value} {es es' : List DictEntry} {n n' : Nat} {name : Str} {v : Value} {Q : Unit → Shared → Prop}
    (X : K.In s.heap) (I : PySem.W.InstAt s.heap x ox C (some (dictOf es n))) (hd : ox.dict = some dx) (hL : s.heap.Ns L m) (hne : dx ≠ L)
    (hs : findIn K (.ref C) "__setattr__" = some (some (.builtin "object.__setattr__"))) (hp : plainOver K C = true) (ht : takerIn K C name = some none) (hh : hasDictIn K C = true) (hl : (getL name es).isSome = true)
    (e : (putL name (PyData.keyHash w.params name) (.str name (s.toks + 1)) v es, putN name es n) = (es', n')) (hz : es'.length ≤ 1000)
    (h : ∀ h' : Heap, h'.Ns L m → h'.get? dx = some (dictOf es' n') → (∀ b o, b ≠ dx → b ≠ L → s.heap.get? b = some o → h'.get? b = some o) → Q () { s with heap := h', toks := s.toks + 2 }) :
    wpAny (model prog w) A (setAttr (.ref x) name v) Q E s := by
  obtain ⟨e1, e2⟩ := Prod.mk.inj e
  have hdx : s.heap.get? dx = some (dictOf es n) := by
    have := I.dict
    rw [hd] at this
    exact this
  refine set_plain X I hs (osa_dict (s := { s with toks := s.toks + 1 }) (h₀ := noObjs s.heap) (L := L) (m := m) (od := dictOf es n) (od' := dictOf es' n') (es := es') (n := n') (pre := []) (post := ledger s.heap L dx)
    (fr_all hL) (news_ledger hne hdx) X I hd hp ht hh hl (fun _ q => nomatch q) (fun ⟨_, _⟩ q => (mem_ledger.mp q).2.1) (by rw [putName_dict, e1, e2]) rfl hz fun h' F' N' => ?_)
  exact h h' F'.ns (N'.get (List.Mem.head _)) fun b o n1 n2 ho => N'.get (List.Mem.tail _ (mem_ledger.mpr ⟨n2, n1, ho⟩))
end
end Att

namespace L2
open PySem PySem.Spec PyProof.Rows

theorem vals_ints : ∀ {vs : List Value} {ns : List Int}, IntsAre vs ns → Vals (ns.map V.int) vs
  | _, _, .nil => .nil
  | _, _, .cons n t h => .cons ⟨t, rfl⟩ (vals_ints h)

/-- nothing is tracked but the script, known to the object (or it is an object of the module) -/
def Only (H : Hp) : Prop := ∀ b, H b = none ∨ ∃ o xs, H b = some (.frz o (.lst xs))

/-- THE HEAD: the law's promise, at the heap behind the top. F, the promise of the law's def, may use that base is part of the heap (so K.In base, base.Ns mainGlobals mg stand in Mod) -/
theorem law_call {P : Program} {w : World} {K : PySem.W.Frag} {mg mb : Str → Option Value} {CX : CXT} {k : Nat} {fa a : Addr} {fd : FuncData} {x : Str} {sp : Sp} {s₁ : Shared} {vs : List Value} {ns : List Int}
    (KX : K.In s₁.heap) (hns : s₁.heap.Ns mainGlobals mg) (hb : s₁.heap.Ns builtinsNs mb) (hbb : ∀ x : Str, x ≠ "__name__" → mb x = bootBuiltins x) (hlim : s₁.heap.NoLimit) (hsm : ∃ mm, s₁.heap.Ns sysModules mm) (hg : s₁.gens = #[])
    (ha : s₁.heap.get? a = some { cls := .type "list", data := .seq vs.toArray }) (hi : IntsAre vs ns) (hl : ns.length ≤ sizeLine) (hr : Room k callerA)
    (F : ∀ base : Heap, K.In base → base.Ns mainGlobals mg → FnOk P w K mg base CX k fa fd [x] sp) (hbind : ∀ (s : Shared) (u : Value), BindsTo s fd ⟨[u], []⟩ [(x, u)])
    (hsp : ∀ H : Hp, Only H → SqL K H a (ns.map V.int) → sp [.ref a] H (fun v _ => v = .bl true) fun _ _ _ => False)
    (hCX : ∀ H e s', CX [] H s₁ (fun _ _ _ => False) e s' → False) :
    codeAny (model P w) callerA (.call (.ref fa) ⟨[.ref a], []⟩) (fun r s' => r = .ok (.ret (.bool true)) ∧ OldK s₁.heap s'.heap ∧ s'.os = s₁.os ∧ AllBare s'.gens) s₁ := by
  have rv := vals_ints hi
  have lenV := hi.length
  -- from an abstract heap in which nothing but the script may be tracked
  have core : ∀ H : Hp, Only H → SqL K H a (ns.map V.int) → HOk P w H s₁.heap → (∀ b, H b ≠ none → b = a) → (H a ≠ none → K.lookup a = none) →
      codeAny (model P w) callerA (.call (.ref fa) ⟨[.ref a], []⟩) (fun r s' => r = .ok (.ret (.bool true)) ∧ OldK s₁.heap s'.heap ∧ s'.os = s₁.os ∧ AllBare s'.gens) s₁ := by
    intro H hO hS hok hA hK
    have base_of : ∀ {b : Addr} {o : Obj}, s₁.heap.get? b = some o → H b = none → (hidT s₁.heap H).get? b = some o := fun e n => hidT_get e n
    have noA : ∀ {b : Addr} {o : Obj} {es : Array DictEntry} {ep : Nat}, s₁.heap.get? b = some o → o.data = .dict es ep → H b = none := fun {b o es ep} e d => by
      cases q : H b with
      | none => rfl
      | some u =>
        have e' : b = a := hA b (by rw [q]; simp)
        subst e'
        rw [ha] at e; cases e
        have d' : Data.seq vs.toArray _ = Data.dict es ep := d
        cases d'
    have nsK : ∀ {b : Addr} {m : Str → Option Value}, s₁.heap.Ns b m → (hidT s₁.heap H).Ns b m := fun {b m} ⟨o, es, ep, e, d, r⟩ => ⟨o, es, ep, base_of e (noA e d), d, r⟩
    have hKb : K.In (hidT s₁.heap H) := fun b o e => base_of (KX b o e) (by
      cases q : H b with
      | none => rfl
      | some u =>
        have e' : b = a := hA b (by rw [q]; simp)
        subst e'
        rw [hK (by rw [q]; simp)] at e; cases e)
    have hM : Mod K mg (hidT s₁.heap H) := ⟨hKb, nsK hns, ⟨mb, nsK hb, hbb⟩, (let ⟨mc, h1, h2⟩ := hlim; ⟨mc, nsK h1, h2⟩), (let ⟨mm, hmm⟩ := hsm; let ⟨o, es, ep, h1, h2, _⟩ := nsK hmm; ⟨o, es, ep, h1, h2⟩)⟩
    have e0 : Env0 P w K mg (hidT s₁.heap H) callerA [] s₁ H := ⟨rfl, hM, fun b o e => of_hidT e, Nat.le_of_eq (hidT_size _ _), trivial, fun b hb => absurd (show b ∈ ([] : List Addr) from hb) (by simp), hok, .of_eq hg⟩
    refine codeAny_mono ((F _ hKb (nsK hns)).run callerA [] s₁ H ⟨[.ref a], []⟩ [.ref a] [.ref a] _ _ hr e0 (hbind s₁ (.ref a)) (.cons rfl .nil) (hsp H hO hS)) fun r s' h => ?_
    cases r with
    | error e => exact (hCX H e s' h).elim
    | ok fl =>
      cases fl with
      | next => exact False.elim h
      | brk => exact False.elim h
      | cont => exact False.elim h
      | ret u =>
        obtain ⟨v, H', os, bare, un, hok', r', q⟩ := h
        have q' : v = .bl true := q
        subst q'
        obtain rfl : u = Value.bool true := r'
        refine ⟨rfl, OldK.of_keep fun b o e => ?_, os, bare⟩
        cases q : H b with
        | none => exact un.keep b o e q (by intro z; exact absurd (show b ∈ ([] : List Addr) from z) (by simp)) (by simp)
        | some u =>
          rcases hO b with z | ⟨ob, xs, z⟩
          · rw [q] at z; cases z
          · have z2 := un.frzs b ob _ z
            obtain ⟨e1, _⟩ := hok b _ z
            obtain ⟨e2, _⟩ := hok' b _ z2
            rw [e] at e1; cases e1
            exact e2
  cases hk : K.lookup a with
  | some o =>
    -- the script is one of the module's own objects
    have e := KX a o hk
    rw [ha] at e
    cases e
    refine core (fun _ => none) (fun _ => .inl rfl) (.inr ⟨_, vs.toArray, _, hk, rfl, rfl, rfl, by rw [List.size_toArray, lenV]; exact hl, by simpa using rv⟩) (fun b u z => by have z' : (none : Option HO) = some u := z; cases z') (fun b z => absurd rfl z) fun z => absurd rfl z
  | none =>
    refine core (fun b => if b = a then some (.frz { cls := .type "list", data := .seq vs.toArray } (.lst (ns.map V.int))) else none) (fun b => ?_) (.inl (.inr ⟨{ cls := .type "list", data := .seq vs.toArray }, if_pos rfl⟩)) (fun b u z => ?_) (fun b z => ?_) fun _ => hk
    · by_cases hb : b = a
      · exact .inr ⟨_, _, if_pos hb⟩
      · exact .inl (if_neg hb)
    · by_cases hb : b = a
      · have z' := (if_pos hb).symm.trans z
        cases z'
        subst hb
        exact ⟨ha, by rw [List.length_map]; exact hl, vs, _, rv, ha⟩
      · have z' := (if_neg hb).symm.trans z
        cases z'
    · by_cases hb : b = a
      · exact hb
      · exact absurd (if_neg hb) z
end L2

namespace L2
open PySem PySem.Spec PyProof.Rows

abbrev KOf {K : PySem.W.Frag} {h : Heap} (_ : K.In h) : PySem.W.Frag := K

/-- the goal that k_head leaves (case hc), from the law's promise. F gives the function object fd (K's own) once, then the promise over every base -/
theorem walk_of {l : PySem.W.OpenLaw} {n k : Nat} {q : Program} (hq : PyProof.Rows.importsNone q = true) {loose : List Str} {XP : (Str → Option Value) → Heap → Prop} {YP : World → Heap → Prop} {d : DefRec} {K : Params → PySem.W.Frag} {CX : World → CXT} {sp : World → Sp} {x : Str}
    (hn : l.most = some n) (hn2 : n ≤ sizeLine) (hdf : d.params.defaults = []) (hr : Room k callerA)
    (hY : ∀ (w : World) (h : Heap), YP w h → (K w.params).In h)
    (F : ∀ (w : World) (mg : Str → Option Value) (fa : Addr) (h : Heap), (K w.params).In h → h.Ns mainGlobals mg → mg d.name = some (.ref fa) →
      ∃ fd : FuncData, (∀ (s : Shared) (u : Value), BindsTo s fd ⟨[u], []⟩ [(x, u)]) ∧
        ∀ base : Heap, (K w.params).In base → base.Ns mainGlobals mg → FnOk l.prog w (K w.params) mg base (CX w) k fa fd [x] (sp w))
    (hsp : ∀ (w : World) (H : Hp) (a : Addr) (ns : List Int), ns.length ≤ n → Only H → SqL (K w.params) H a (ns.map V.int) → sp w [.ref a] H (fun v _ => v = .bl true) fun _ _ _ => False)
    (hCX : ∀ (w : World) (H : Hp) (s : Shared) (e : Value) (s' : Shared), CX w [] H s (fun _ _ _ => False) e s' → False) :
    PySem.W.WalkO q loose XP YP l.row.toRowW d [] (fun f vs => PySem.call f vs) := by
  refine Att.attach_call hn hdf fun w s₀ s₁ mg mb fa o pm cd doc a vs ns G Y ho hd hcd hmg hobj hints hlen hg => ?_
  have KX := hY w _ Y
  obtain ⟨fd, hb, hF⟩ := F w mg fa _ KX G.T.g hmg
  exact law_call KX G.T.g G.T.b G.T.builtins G.T.nolimit (let ⟨mm, hmm, _⟩ := (G.T.seer hq).mods; ⟨mm, hmm⟩) hg hobj hints (Nat.le_trans hlen hn2) hr hF hb (fun H hO hS => hsp w H a ns hlen hO hS) fun H e s' => hCX w H s₁ e s'
/-- the same where the promise hangs on the written part alone: (sp := My.sp_law), no hole under a binder -/
theorem walk_ofK {l : PySem.W.OpenLaw} {n k : Nat} {q : Program} (hq : PyProof.Rows.importsNone q = true) {loose : List Str} {XP : (Str → Option Value) → Heap → Prop} {YP : World → Heap → Prop} {d : DefRec} {K : Params → PySem.W.Frag} {CX : CXT} {sp : PySem.W.Frag → Sp} {x : Str}
    (hn : l.most = some n) (hn2 : n ≤ sizeLine) (hdf : d.params.defaults = []) (hr : Room k callerA)
    (hY : ∀ (w : World) (h : Heap), YP w h → (K w.params).In h)
    (F : ∀ (w : World) (mg : Str → Option Value) (fa : Addr) (h : Heap), (K w.params).In h → h.Ns mainGlobals mg → mg d.name = some (.ref fa) →
      ∃ fd : FuncData, (∀ (s : Shared) (u : Value), BindsTo s fd ⟨[u], []⟩ [(x, u)]) ∧
        ∀ base : Heap, (K w.params).In base → base.Ns mainGlobals mg → FnOk l.prog w (K w.params) mg base CX k fa fd [x] (sp (K w.params)))
    (hsp : ∀ (K : PySem.W.Frag) (H : Hp) (a : Addr) (ns : List Int), ns.length ≤ n → Only H → SqL K H a (ns.map V.int) → sp K [.ref a] H (fun v _ => v = .bl true) fun _ _ _ => False)
    (hCX : ∀ (H : Hp) (s : Shared) (e : Value) (s' : Shared), CX [] H s (fun _ _ _ => False) e s' → False) :
    PySem.W.WalkO q loose XP YP l.row.toRowW d [] (fun f vs => PySem.call f vs) :=
  walk_of hq (K := K) (CX := fun _ => CX) (sp := fun w => sp (K w.params)) hn hn2 hdf hr hY F (fun w H a ns h1 h2 h3 => hsp (K w.params) H a ns h1 h2 h3) fun _ H s e s' => hCX H s e s'
end L2

/- THE LAST THEOREM (shape; LID, My.* are yours):
   My.Adr: a structure of the addresses that your layer names (classes, functions); My.Txt K t: a structure (Prop) of the equations over K;
   My.txt_mk : {K} {implicit addresses ..} (e1 : nsIn K mainGlobals "law" = some (some (.ref f))) (e2 : K.lookup f = some ⟨oc, od, .func (fnOf "law" "law" params body scope dV kV doc pm an cdv ct), sl⟩) (e3 : codeIn K cdv "law" = true) .. : ∃ t, My.Txt K t

set_option maxRecDepth 100000 in
set_option maxHeartbeats 0 in
theorem PySem.Challenge.cw_LID_holds : PySem.Challenge.rw_LID.Holds := by
  w_on; o_law; k_head; (case hw => w_witness2)
  k_fill
  refine L2.walk_of (l := PySem.Challenge.rw_LID) (n := 63) (k := 40) (x := "script") (CX := fun w => ..) (sp := fun _ => My.sp_law) rfl (by decide) rfl ⟨rfl, by decide, by decide⟩ (fun w h Y => PySem.W.kIn_of Y) ?F ?S ?C
  case F =>
    intro w mg fa h KX G hmg
    have T : ∃ t, My.Txt (L2.KOf KX) t := by
      dsimp only [L2.KOf]                          -- K must stand as «<heap const> w.params» for k_is
      refine' My.txt_mk ?e1 ?e2 ?e3 ..
      (case e1 => PySem.W.k_is)                    -- in the order: a name -> its address -> its object -> its parts
      (case e2 => PySem.W.k_is)
      ..
    obtain ⟨t, T⟩ := T
    have e0 := hmg.symm.trans (PySem.W.mg_of KX G T.law)
    cases e0                                       -- fa is the law's own address
    exact ⟨_, fun s u => .of_eq rfl, fun base kb nb => My.law_fn T kb nb⟩     -- if «.of_eq rfl» comes too early: refine' ⟨_, ?b, fun base kb nb => My.law_fn T kb nb⟩; exact fun s u => .of_eq rfl
  case S => exact fun w H a ns hl hO hS => ..
  case C => exact ..
(the tactic k_is has no namespace: write k_is) -/

/-! SHORT WORDS over the layer: a def of the text, its body, what a loop and a test want. -/
namespace L2
open PySem PySem.Spec PyProof.Rows

/-! ### the text by places -/
/-- the j-th statement of a class's body -/
def inClass (s : Stmt) (j : Nat) : Stmt := match s with
  | .ClassDef _ _ _ body _ _ _ _ _ _ _ => body.getD j (.Pass ⟨0, 0, 0, 0⟩)
  | _ => .Pass ⟨0, 0, 0, 0⟩
def defArgs (s : Stmt) : Arguments := match s with
  | .FunctionDef _ a _ _ _ _ _ _ _ _ => a
  | _ => { posonlyargs := [], args := [], vararg := none, kwonlyargs := [], kw_defaults := [], kwarg := none, defaults := [] }
def defBody (s : Stmt) : List Stmt := match s with
  | .FunctionDef _ _ b _ _ _ _ _ _ _ => b
  | _ => []
def defScope (s : Stmt) : Scope := match s with
  | .FunctionDef _ _ _ _ _ _ sc _ _ _ => sc
  | _ => { kind := .function, names := [], isGenerator := false, isCoroutine := false }

/-! ### no exception leaves a def -/
abbrev CX0 : CXT := fun _ _ _ _ _ _ => False
abbrev E0 : XK := fun _ _ _ => False
theorem pass0 {X : Cx} : Passes CX0 X E0 := fun _ _ _ _ _ _ _ h => h.elim

/-! ### a def (or method) of the text as it stands behind the top -/
structure Fun (K : PySem.W.Frag) (x qual : Str) (st : Stmt) (f : Addr) (fd : FuncData) : Prop where
  ex : ∃ (oc : Value) (od : Option Addr) (kV doc pm : Value) (an : Option Addr) (cdv ct : Value) (osl : Array (Option Value)),
    fd = PySem.W.fnOf x qual (defArgs st) (defBody st) (defScope st) .none kV doc pm an cdv ct ∧ K.lookup f = some ⟨oc, od, .func fd, osl⟩ ∧ PySem.W.codeIn K cdv qual = true
  kp : PySem.W.keepIn K (.ref f) = true
section
variable {P : Program} {w : World} {K : PySem.W.Frag} {mg : Str → Option Value} {base : Heap}
/-- THE RULE for a def: its body as a term of rules, and the reading of that term -/
theorem Fun.ok {x qual : Str} {st : Stmt} {f : Addr} {fd : FuncData} {N ps : List Str} {k : Nat} {sp : Sp} (F : Fun K x qual st f fd) (S : FnScope N ps (defScope st)) (len : ∀ vs H Q E, sp vs H Q E → vs.length = ps.length)
    (hbody : ∀ (cdv : Value) (A : Around) (outer : List Env) (s : Shared) (H : Hp) (vs : List V) (Q : VK) (E : XK), Room k (A.deeper (envOfC qual (defScope st) s.heap.objs.size f cdv)) → sp vs H Q E →
      ∃ t, PSs (cxOf CX0 P w K mg base N qual (defScope st) f cdv A outer s H E).nox (defBody st) t ∧ t { nx := fun _ H' => Q .non H', rt := Q } (start N vs) H) : FnOk P w K mg base CX0 (k + 1) f fd ps sp := by
  obtain ⟨oc, od, kV, doc, pm, an, cdv, ct, osl, rfl, lk, hcd⟩ := F.ex
  refine fn_of lk hcd S len fun A outer s H vs Q E hr hsp => ?_
  obtain ⟨t, h, q⟩ := hbody cdv A outer s H vs Q E hr hsp
  exact ⟨t, h.nox, q⟩
/-- how its arguments bind (no defaults): h is «fun _ _ _ _ _ _ us hl => match us, hl with | [_, _], _ => rfl», one _ a parameter -/
theorem Fun.binds {x qual : Str} {st : Stmt} {f : Addr} {fd : FuncData} {ps : List Str} (F : Fun K x qual st f fd)
    (h : ∀ (kV doc pm : Value) (an : Option Addr) (cdv ct : Value) (us : List Value), us.length = ps.length → bindArgs (PySem.W.fnOf x qual (defArgs st) (defBody st) (defScope st) .none kV doc pm an cdv ct) ⟨us, []⟩ = pure (ps.zip us)) : Binds K fd ps [] := by
  obtain ⟨oc, od, kV, doc, pm, an, cdv, ct, osl, rfl, lk, hcd⟩ := F.ex
  exact .all (h kV doc pm an cdv ct)
theorem fun_mk {x qual : Str} {st : Stmt} {f : Addr} {oc : Value} {od an : Option Addr} {osl : Array (Option Value)} {kV doc pm cdv ct : Value} (l : K.lookup f = some ⟨oc, od, .func (PySem.W.fnOf x qual (defArgs st) (defBody st) (defScope st) .none kV doc pm an cdv ct), osl⟩)
    (c : PySem.W.codeIn K cdv qual = true) (k : PySem.W.keepIn K (.ref f) = true) : Fun K x qual st f (PySem.W.fnOf x qual (defArgs st) (defBody st) (defScope st) .none kV doc pm an cdv ct) := ⟨⟨oc, od, kV, doc, pm, an, cdv, ct, osl, rfl, l, c⟩, k⟩
end
theorem hu_of {A : Around} {k : Nat} (hr : Room k A) : A.units + 1 < cLine := Nat.lt_of_le_of_lt (Nat.add_le_add_left (by decide : 1 ≤ 64) _) hr.units
theorem small1000 {n : Nat} (h : n ≤ 1000) : n < sizeLine := Nat.lt_of_le_of_lt h (by decide)

/-! ### expressions in short: the name that stands in the i-th slot -/
section
variable {X : Cx}
theorem pv (i : Nat) {x : Str} {pos : Pos} (hN : X.N[i]? = some x := by rfl) (hv : Vis X.env.scope x := by first | exact Or.inl rfl | exact Or.inr (Or.inl rfl) | exact Or.inr (Or.inr rfl)) (hd : (x == ("__debug__" : Str)) = false := by decide)
    (hcd : (x == ("__classdict__" : Str)) = false := by decide) : PE X (.Name x pos) (tVar i) := pe_var hN hv hd hcd
end

/-! ### tests -/
theorem iteF {A B : Prop} (h : B) : if false = true then A else B := by
  rw [if_neg Bool.false_ne_true]
  exact h
theorem iteT {A B : Prop} (h : A) : if true = true then A else B := by
  rw [if_pos rfl]
  exact h
theorem ite2 {c A B : Prop} [Decidable c] (h1 : c → A) (h2 : ¬ c → B) : if c then A else B := by
  by_cases h : c
  · rw [if_pos h]
    exact h1 h
  · rw [if_neg h]
    exact h2 h
theorem iteNS {c A B : Prop} [Decidable c] (hc : c) (h : B) : if (!decide c) = true then A else B := by
  rw [decide_eq_true hc]
  exact iteF h

/-! ### heaps -/
/-- all that was tracked is as it was -/
def Same (H H' : Hp) : Prop := ∀ b o, H b = some o → H' b = some o
theorem Same.refl (H : Hp) : Same H H := fun _ _ h => h
theorem Same.trans {H H1 H2 : Hp} (a : Same H H1) (b : Same H1 H2) : Same H H2 := fun c o h => b c o (a c o h)
theorem Same.free {H H' : Hp} (e : Same H H') {l : Addr} (h : H' l = Option.none) : H l = Option.none := by
  cases q : H l with
  | none => rfl
  | some o =>
    rw [e l o q] at h
    cases h
theorem Same.seq {K : PySem.W.Frag} {H H' : Hp} {a : Addr} {xs : List V} (e : Same H H') (h : SqL K H a xs) : SqL K H' a xs := by
  rcases h with (h | ⟨o, h⟩) | h
  · exact .inl (.inl (e _ _ h))
  · exact .inl (.inr ⟨o, e _ _ h⟩)
  · exact .inr h

/-! ### a dict's pairs: keys that differ -/
section
variable {κ : Type} [DecidableEq κ]
theorem valV_not {kvs : List (κ × V)} {k : κ} (h : valV kvs k = none) : ¬ k ∈ kvs.map (·.1) := by
  intro m
  obtain ⟨p, hp, e⟩ := List.mem_map.mp m
  have q : (kvs.any fun kv => decide (kv.1 = k)) = true := List.any_eq_true.mpr ⟨p, hp, decide_eq_true e⟩
  rw [valV_any, h] at q
  exact absurd q (by simp)
theorem valV_in {kvs : List (κ × V)} {k : κ} {v : V} (h : valV kvs k = some v) : k ∈ kvs.map (·.1) := by
  have q : (kvs.any fun kv => decide (kv.1 = k)) = true := by
    rw [valV_any, h]
    all_goals rfl
  obtain ⟨p, hp, e⟩ := List.any_eq_true.mp q
  exact List.mem_map.mpr ⟨p, hp, of_decide_eq_true e⟩
theorem nd_snoc : ∀ {l : List κ} {k : κ}, l.Nodup → ¬ k ∈ l → (l ++ [k]).Nodup
  | [], k, _, _ => by simp
  | a :: r, k, h, hk => by
    obtain ⟨h1, h2⟩ := List.nodup_cons.mp h
    show (a :: (r ++ [k])).Nodup
    refine List.nodup_cons.mpr ⟨fun m => ?_, nd_snoc h2 fun m => hk (List.mem_cons.mpr (Or.inr m))⟩
    rcases List.mem_append.mp m with q | q
    · exact h1 q
    · exact hk (List.mem_cons.mpr (Or.inl (List.mem_singleton.mp q).symm))
theorem nd_putK {kvs : List (κ × V)} {k : κ} (v : V) (hn : (kvs.map (·.1)).Nodup) (h : valV kvs k = none) : ((putK kvs k v).map (·.1)).Nodup := by
  rw [putK_new v h, List.map_append]
  exact nd_snoc hn (valV_not h)
theorem dropK_pos {p : κ × V} {r : List (κ × V)} {k : κ} (e : p.1 = k) : dropK (p :: r) k = dropK r k := by
  unfold dropK
  rw [List.filter_cons, if_neg (by simp [e])]
theorem dropK_neg {p : κ × V} {r : List (κ × V)} {k : κ} (e : ¬ p.1 = k) : dropK (p :: r) k = p :: dropK r k := by
  unfold dropK
  rw [List.filter_cons, if_pos (by simp [e])]
theorem dropK_no : ∀ {kvs : List (κ × V)} {k : κ}, ¬ k ∈ kvs.map (·.1) → dropK kvs k = kvs
  | [], _, _ => rfl
  | p :: r, k, h => by
    have h' : ¬ k ∈ r.map (·.1) := fun m => by
      obtain ⟨q, hq, e⟩ := List.mem_map.mp m
      exact h (List.mem_map.mpr ⟨q, List.mem_cons.mpr (Or.inr hq), e⟩)
    rw [dropK_neg fun e => h (List.mem_map.mpr ⟨p, List.mem_cons.mpr (Or.inl rfl), e⟩), dropK_no h']
theorem dropK_mem {kvs : List (κ × V)} {k : κ} {p : κ × V} (h : p ∈ dropK kvs k) : p ∈ kvs := (List.mem_filter.mp h).1
theorem nd_dropK : ∀ {kvs : List (κ × V)} {k : κ}, (kvs.map (·.1)).Nodup → ((dropK kvs k).map (·.1)).Nodup
  | [], _, _ => List.nodup_nil
  | p :: r, k, h => by
    have h : (p.1 :: r.map (·.1)).Nodup := h
    obtain ⟨h1, h2⟩ := List.nodup_cons.mp h
    by_cases e : p.1 = k
    · rw [dropK_pos e]
      exact nd_dropK h2
    · rw [dropK_neg e]
      show (p.1 :: (dropK r k).map (·.1)).Nodup
      refine List.nodup_cons.mpr ⟨fun m => h1 ?_, nd_dropK h2⟩
      obtain ⟨q, hq, eq⟩ := List.mem_map.mp m
      exact List.mem_map.mpr ⟨q, dropK_mem hq, eq⟩
theorem dropK_len : ∀ {kvs : List (κ × V)} {k : κ}, (kvs.map (·.1)).Nodup → k ∈ kvs.map (·.1) → (dropK kvs k).length + 1 = kvs.length
  | [], _, _, m => by simp at m
  | p :: r, k, h, m => by
    have h : (p.1 :: r.map (·.1)).Nodup := h
    have m : k = p.1 ∨ k ∈ r.map (·.1) := List.mem_cons.mp m
    obtain ⟨h1, h2⟩ := List.nodup_cons.mp h
    by_cases e : p.1 = k
    · subst e
      rw [dropK_pos rfl, dropK_no h1]
      all_goals rfl
    · have m' : k ∈ r.map (·.1) := m.resolve_left fun z => e z.symm
      have q := dropK_len h2 m'
      rw [dropK_neg e, List.length_cons, List.length_cons]
      omega
end
end L2

end

section
set_option Elab.async false
set_option linter.all false
set_option maxRecDepth 100000
set_option maxHeartbeats 4000000
namespace L2
open PySem PySem.Spec PyProof.Rows

/-! ## a comprehension's cells -/
def closeOf (env : Env) : List (Str × NameKind) → List (Str × Addr) → List (Str × Addr)
  | [], cs => cs
  | y :: r, cs => closeOf env r (if (y.2 == NameKind.free) = true then (y.1, (env.cells.lookup y.1).getD 0) :: cs else cs)

theorem closure_go {env : Env} : ∀ (l : List (Str × NameKind)) (cs : List (Str × Addr)), (∀ y ∈ l, y.2 = .free → ∃ c, env.cells.lookup y.1 = some c) →
    (forIn l cs fun (x : Str × NameKind) (r : List (Str × Addr)) => if (x.2 == NameKind.free) = true then (do
      let a ← cellOf env x.1
      pure (ForInStep.yield ((x.1, a) :: r))) else pure (ForInStep.yield r)) = (pure (closeOf env l cs) : Sem (List (Str × Addr)))
  | [], cs, _ => rfl
  | y :: l, cs, h => by
    rw [List.forIn_cons]
    by_cases hk : (y.2 == NameKind.free) = true
    · obtain ⟨c, hc⟩ := h y List.mem_cons_self (by simpa using hk)
      have e1 : cellOf env y.1 = pure c := by unfold cellOf; rw [hc]
      rw [if_pos hk, e1]
      show (forIn l ((y.1, c) :: cs) _ : Sem _) = _
      rw [closure_go l _ fun z hz => h z (List.mem_cons_of_mem _ hz)]
      conv => rhs; unfold closeOf
      rw [if_pos hk, hc]
      rfl
    · rw [if_neg hk]
      show (forIn l cs _ : Sem _) = _
      rw [closure_go l _ fun z hz => h z (List.mem_cons_of_mem _ hz)]
      conv => rhs; unfold closeOf
      rw [if_neg hk]
theorem closure_eq {scope : Scope} {env : Env} (h : ∀ y ∈ scope.names, y.2 = .free → ∃ c, env.cells.lookup y.1 = some c) : closureFor scope env = pure (closeOf env scope.names []) := by
  have e := closure_go (env := env) scope.names [] h
  unfold closureFor
  show ((forIn scope.names ([] : List (Str × Addr)) fun (x : Str × NameKind) (r : List (Str × Addr)) => if (x.2 == NameKind.free) = true then (do
      let a ← cellOf env x.1
      pure (ForInStep.yield ((x.1, a) :: r))) else pure (ForInStep.yield r)) >>= fun z => pure z : Sem (List (Str × Addr))) = _
  rw [e]
  rfl
theorem close_sub {env : Env} : ∀ (l : List (Str × NameKind)) (cs : List (Str × Addr)), (∀ y ∈ l, y.2 = .free → ∃ c, env.cells.lookup y.1 = some c) → (∀ x c, cs.lookup x = some c → env.cells.lookup x = some c) →
    ∀ x c, (closeOf env l cs).lookup x = some c → env.cells.lookup x = some c
  | [], cs, _, h, x, c, e => h x c e
  | y :: l, cs, hf, h, x, c, e => by
    unfold closeOf at e
    refine close_sub l _ (fun z hz => hf z (List.mem_cons_of_mem _ hz)) ?_ x c e
    intro z d ez
    by_cases hk : (y.2 == NameKind.free) = true
    · rw [if_pos hk] at ez
      obtain ⟨c', hc'⟩ := hf y List.mem_cons_self (by simpa using hk)
      rw [hc'] at ez
      rw [List.lookup_cons] at ez
      by_cases hz : (z == y.1) = true
      · rw [hz] at ez
        have hz' : z = y.1 := by simpa using hz
        rw [hz', hc']
        exact ez
      · have hz' : (z == y.1) = false := by simpa using hz
        rw [hz'] at ez
        exact h z d ez
    · rw [if_neg hk] at ez
      exact h z d ez
theorem close_has {env : Env} : ∀ (l : List (Str × NameKind)) (cs : List (Str × Addr)) (x : Str), ((x, NameKind.free) ∈ l ∨ ∃ c, cs.lookup x = some c) → ∃ c, (closeOf env l cs).lookup x = some c
  | [], cs, x, h => by
    rcases h with h | h
    · exact absurd h (by simp)
    · exact h
  | y :: l, cs, x, h => by
    unfold closeOf
    refine close_has l _ x ?_
    rcases h with h | ⟨c, hc⟩
    · rcases List.mem_cons.mp h with e | e
      · subst e
        refine .inr ?_
        rw [if_pos (by rfl)]
        exact ⟨(env.cells.lookup x).getD 0, by rw [List.lookup_cons]; simp⟩
      · exact .inl e
    · refine .inr ?_
      by_cases hk : (y.2 == NameKind.free) = true
      · rw [if_pos hk, List.lookup_cons]
        by_cases hz : (x == y.1) = true
        · rw [hz]; exact ⟨_, rfl⟩
        · have hz' : (x == y.1) = false := by simpa using hz
          rw [hz']; exact ⟨c, hc⟩
      · rw [if_neg hk]; exact ⟨c, hc⟩

theorem relabel_of {env : Env} : ∀ {names : List (Str × NameKind)} {x : Str} {k : NameKind},
    (names.map fun (y : Str × NameKind) => if (y.2 == NameKind.free && env.scope.kind == .function && env.kindOf y.1 == some .cell) = true then (y.1, NameKind.cell) else (y.1, y.2)).lookup x = some k →
    (names.lookup x = some k) ∨ (names.lookup x = some .free ∧ k = .cell)
  | [], x, k, h => by simp at h
  | y :: r, x, k, h => by
    rw [List.map_cons] at h
    by_cases hx : (x == y.1) = true
    · by_cases hc : (y.2 == NameKind.free && env.scope.kind == .function && env.kindOf y.1 == some .cell) = true
      · rw [if_pos hc, List.lookup_cons, hx] at h
        rw [List.lookup_cons, hx]
        have : y.2 = .free := by simp at hc; exact hc.1.1
        refine .inr ⟨by rw [this], ?_⟩
        cases h; rfl
      · rw [if_neg hc, List.lookup_cons, hx] at h
        rw [List.lookup_cons, hx]
        exact .inl h
    · have hx' : (x == y.1) = false := by simpa using hx
      have h' : (r.map fun (y : Str × NameKind) => if (y.2 == NameKind.free && env.scope.kind == .function && env.kindOf y.1 == some .cell) = true then (y.1, NameKind.cell) else (y.1, y.2)).lookup x = some k := by
        by_cases hc : (y.2 == NameKind.free && env.scope.kind == .function && env.kindOf y.1 == some .cell) = true
        · rw [if_pos hc, List.lookup_cons, hx'] at h; exact h
        · rw [if_neg hc, List.lookup_cons, hx'] at h; exact h
      rw [List.lookup_cons, hx']
      exact relabel_of h'
theorem of_relabel {env : Env} : ∀ {names : List (Str × NameKind)} {x : Str}, names.lookup x = some .free →
    (names.map fun (y : Str × NameKind) => if (y.2 == NameKind.free && env.scope.kind == .function && env.kindOf y.1 == some .cell) = true then (y.1, NameKind.cell) else (y.1, y.2)).lookup x = some .cell ∨
    (names.map fun (y : Str × NameKind) => if (y.2 == NameKind.free && env.scope.kind == .function && env.kindOf y.1 == some .cell) = true then (y.1, NameKind.cell) else (y.1, y.2)).lookup x = some .free
  | [], x, h => by simp at h
  | y :: r, x, h => by
    rw [List.map_cons]
    by_cases hx : (x == y.1) = true
    · rw [List.lookup_cons, hx] at h
      have hy : y.2 = .free := Option.some.inj h
      by_cases hc : (y.2 == NameKind.free && env.scope.kind == .function && env.kindOf y.1 == some .cell) = true
      · rw [if_pos hc, List.lookup_cons, hx]; exact .inl rfl
      · rw [if_neg hc, List.lookup_cons, hx]; exact .inr (by rw [hy])
    · have hx' : (x == y.1) = false := by simpa using hx
      rw [List.lookup_cons, hx'] at h
      have ih := of_relabel (env := env) h
      by_cases hc : (y.2 == NameKind.free && env.scope.kind == .function && env.kindOf y.1 == some .cell) = true
      · rw [if_pos hc, List.lookup_cons, hx']; exact ih
      · rw [if_neg hc, List.lookup_cons, hx']; exact ih
end L2

end

section
set_option Elab.async false
set_option linter.all false
set_option maxRecDepth 100000
set_option maxHeartbeats 4000000
namespace L2
open PySem PySem.Spec PyProof.Rows

/-! ## list comprehensions -/
/-- the tests of a clause -/
def PIfs (X : Cx) (ifs : List Expr) (t : TT) : Prop :=
  ∀ (pins : List (Addr × Obj)) (s : Shared) (σ : St) (H : Hp) (Q : Bool → Hp → Prop), Inv X pins σ H s → t σ H Q →
    wpAny (model X.prog X.w) X.A (forIn ifs true fun c r => if r = true then (do
      let ok ← isTrue c X.env (eval c X.env)
      pure (ForInStep.yield ok)) else pure (ForInStep.yield r)) (TP X pins σ Q) X.xe s
def tYes : TT := fun _ H Q => Q true H
theorem pifs_nil {X : Cx} : PIfs X [] tYes := fun _ _ _ H _ I h => wpAny_tests_nil ⟨H, I, h⟩
theorem pifs_one {X : Cx} {c : Expr} {t : TT} (h : PT X c t) : PIfs X [c] t := fun pins s σ H Q I hq => wpAny_tests_one (h pins s σ H Q I hq)

section
variable {prog : Program} {w : World} {A : Around} {R : Result → Shared → Prop} {s : Shared}
/-- the loop, no exception leaving it -/
theorem lc_loop {elt target iter : Expr} {ifs : List Expr} {scope : Scope} {pos : Pos} {it acc : Value} {env : Env} (I : Nat → Shared → Prop)
    (turn : ∀ n s, I n s → wpAny (model prog w) A (pyNext it) (fun r s1 => (r = none ∧ R (.ok .next) s1) ∨ ∃ v, r = some v ∧
      wpAny (model prog w) A (letOwnedTupleGo target it v) (fun _ s2 => wpAny (model prog w) A (assign target env v) (fun _ s3 =>
        wpAny (model prog w) A (forIn ifs true fun c r => if r = true then (do
          let ok ← isTrue c env (eval c env)
          pure (ForInStep.yield ok)) else pure (ForInStep.yield r)) (fun ok s4 =>
            (ok = true ∧ wpAny (model prog w) A (eval elt env) (fun x s5 => wpAny (model prog w) A (call (.builtin "list.append") [acc, x]) (fun _ s6 => ∃ m, m < n ∧ I m s6) (fun _ _ => False) s5) (fun _ _ => False) s4) ∨
            (ok = false ∧ ∃ m, m < n ∧ I m s4)) (fun _ _ => False) s3) (fun _ _ => False) s2) (fun _ _ => False) s1) (fun _ _ => False) s)
    (n : Nat) (h : I n s) : codeAny (model prog w) A (.compLoop (.ListComp elt [⟨target, iter, ifs, 0⟩] scope pos) 0 it acc env) R s := by
  refine codeAny_loop rfl I (fun n s hI => ?_) n h
  show wpAny _ A ((compTurn (.ListComp elt [⟨target, iter, ifs, 0⟩] scope pos) 0 it acc env).onRaise fun x => do
    noteFrame x env
    theTreesLotGoes x) _ _ s
  refine wpAny_noted ?_
  rw [compTurn_list]
  refine wpAny_bind (wpAny_standAt (wpAny_bind (wpAny_mono (turn n s hI) (fun r s1 h1 => ?_) fun _ _ f => f.elim)))
  rcases h1 with ⟨rfl, h1⟩ | ⟨v, rfl, h1⟩
  · exact wpAny_pure h1
  · refine wpAny_bind (wpAny_mono h1 (fun _ s2 h2 => ?_) fun _ _ f => f.elim)
    refine wpAny_bind (wpAny_mono h2 (fun _ s3 h3 => ?_) fun _ _ f => f.elim)
    refine wpAny_bind (wpAny_mono h3 (fun ok s4 h4 => ?_) fun _ _ f => f.elim)
    rcases h4 with ⟨rfl, h4⟩ | ⟨rfl, h4⟩
    · refine wpAny_bind (wpAny_bind (wpAny_mono h4 (fun x s5 h5 => ?_) fun _ _ f => f.elim))
      exact wpAny_bind (wpAny_mono h5 (fun _ s6 h6 => wpAny_pure (wpAny_pure ⟨rfl, h6⟩)) fun _ _ f => f.elim)
    · exact wpAny_pure ⟨rfl, h4⟩
end

/-- the context of a comprehension's block -/
def lcCx (X : Cx) (N' : List Str) (scope : Scope) (C : Addr) (s2 : Shared) (H2 : Hp) (fp : List Addr) (pn : List (Addr × Obj)) : Cx :=
  { X with N := N', s₀ := s2, H₀ := H2, env := compEnvC scope (closeOf X.env scope.names []) C X.env, outer := X.stack, stack := X.stack, ex := fp, fn := fun _ => false, pn := X.pn ++ pn, xe := fun _ _ => False }
/-- the values of the names that the block sees -/
def capS (cap : List (Option Nat)) (σ : St) : St := cap.map fun o => o.bind fun j => (σ[j]?).join
/-- what of the text a comprehension must have; cap: for each of its names where it stands around, if it is caught -/
structure LcSc (X : Cx) (N' : List Str) (cap : List (Option Nat)) (scope : Scope) : Prop where
  nocell : ∀ y ∈ scope.names, y.2 ≠ .cell
  kind : scope.kind = .function
  names : ∀ y ∈ scope.names, y.2 = .local → scope.names.lookup y.1 = some .local
  frees : ∀ y ∈ scope.names, y.2 = .free → X.env.kindOf y.1 = some .cell ∨ X.env.kindOf y.1 = some .free
  len : cap.length = N'.length
  cap : ∀ (i j : Nat), cap[i]? = some (some j) → ∃ x, N'[i]? = some x ∧ X.N[j]? = some x ∧ scope.names.lookup x = some .free

section
variable {X : Cx} {N' : List Str} {cap : List (Option Nat)} {scope : Scope} {pins : List (Addr × Obj)} {σ : St} {H : Hp} {s : Shared}
theorem LcSc.cells (S : LcSc X N' cap scope) (ok : X.Ok) : ∀ y ∈ scope.names, y.2 = .free → ∃ c, X.env.cells.lookup y.1 = some c := fun y hy hk => ok.has y.1 (S.frees y hy hk)
theorem LcSc.sub (S : LcSc X N' cap scope) (ok : X.Ok) : ∀ x c, (closeOf X.env scope.names []).lookup x = some c → X.env.cells.lookup x = some c :=
  close_sub scope.names [] (S.cells ok) fun x c e => by simp at e
theorem LcSc.kinds (S : LcSc X N' cap scope) {C : Addr} {cl : List (Str × Addr)} {x : Str} (h : (compEnvC scope cl C X.env).kindOf x = some .cell ∨ (compEnvC scope cl C X.env).kindOf x = some .free) : scope.names.lookup x = some .free := by
  rcases h with h | h
  · rcases relabel_of (names := scope.names) h with q | ⟨q, _⟩
    · exact absurd rfl (S.nocell _ (PySem.mem_of_lookup q))
    · exact q
  · rcases relabel_of (names := scope.names) h with q | ⟨q, _⟩
    · exact q
    · exact q
theorem Inv.stkAll (I : Inv X pins σ H s) {b : Addr} (h1 : b ≠ X.env.locals) (h2 : b ∉ X.fs) : b ∉ frs X.stack := fun hb => (List.mem_cons.mp (I.stkSub b hb)).elim h1 h2

/-- the block's context is sound, its first state too -/
theorem lc_start (S : LcSc X N' cap scope) (I : Inv X pins σ H s) {fp : List Addr} {h4 : Heap} {C : Addr} {tk : Nat} (hf : ∀ b ∈ fp, FpOk X pins H b) (hlt : ∀ b ∈ fp, b < s.heap.objs.size)
    (hC : s.heap.objs.size ≤ C) (hn : h4.Ns C fun _ => none) (hk : ∀ b o, s.heap.get? b = some o → h4.get? b = some o) :
    Inv (lcCx X N' scope C s H fp pins) [] (capS cap σ) H { s with heap := h4, toks := tk } := by
  have cellLt : ∀ x c, X.env.cells.lookup x = some c → c < s.heap.objs.size := fun x c e => by
    obtain ⟨v, q⟩ := I.cell x c e
    exact q.lt
  have fresh : H C = none := I.hok.fresh hC
  have ok : (lcCx X N' scope C s H fp pins).Ok := by
    refine ⟨I.ok.mod, S.kind, I.ok.glob, I.ok.blt, hC, fun x y c h1 h2 => ?_, fun x hx => ?_, fun x c hx _ => ?_, I.ok.hd, I.ok.frames, .inl rfl, fun b hb => ⟨?_, fun x c e => ?_⟩, I.bs, Nat.le_trans I.ok.bsz I.sz, fun b o e hb => ?_, fun b hb => ?_, I.stack, I.stkFree⟩
    · exact I.ok.inj x y c (S.sub I.ok x c h1) (S.sub I.ok y c h2)
    · exact close_has scope.names [] x (.inl (PySem.mem_of_lookup (S.kinds hx)))
    · exact absurd hx (by show ¬ (false = true); decide)
    · exact Nat.ne_of_lt (Nat.lt_of_lt_of_le (hlt b hb) hC)
    · exact (hf b hb).2.2.2.2.1 x c (S.sub I.ok x c e)
    · rcases (hf b hb).2.2.2.1 with z | z
      · exact I.ok.noex b o e z
      · exact absurd (Nat.lt_of_lt_of_le (Heap.lt_size (I.ok.bs b o e).1) z) (Nat.lt_irrefl _)
    · exact I.stkAll (hf b hb).2.1 (hf b hb).2.2.1
  refine ⟨ok, rfl, I.bare, Un.kept hk, ⟨_, hn, fun i x v h1 h2 h3 => ?_⟩, fun x c e => ?_, fresh, fun x c e => I.freeC x c (S.sub I.ok x c e), fun p hp => ?_, I.hok.kept hk, ?_⟩
  · -- a name that is caught
    have h2' : (cap[i]?).map (fun o => o.bind fun j => (σ[j]?).join) = some (some v) := by
      have : (capS cap σ)[i]? = some (some v) := h2
      unfold capS at this
      rw [List.getElem?_map] at this
      exact this
    cases e : cap[i]? with
    | none => rw [e] at h2'; simp at h2'
    | some o =>
      cases o with
      | none => rw [e] at h2'; simp at h2'
      | some j =>
        rw [e] at h2'
        obtain ⟨x', a1, a2, a3⟩ := S.cap i j e
        have ex : x' = x := by
          have : N'[i]? = some x := h1
          rw [a1] at this
          exact Option.some.inj this
        subst ex
        have sv : σ[j]? = some (some v) := by
          have q : (σ[j]?).join = some v := Option.some.inj h2'
          cases f : σ[j]? with
          | none => rw [f] at q; simp at q
          | some o => rw [f] at q; cases o with
            | none => simp at q
            | some v' => simp at q; rw [q]
        have hv : X.env.kindOf x' = some .cell ∨ X.env.kindOf x' = some .free := S.frees _ (PySem.mem_of_lookup a3) rfl
        obtain ⟨m, hm, hl⟩ := I.loc
        obtain ⟨u, r, l⟩ := hl j x' v a2 sv (hv.elim (fun z => .inr (.inl z)) fun z => .inr (.inr z))
        refine ⟨u, r, .inr ⟨?_, ?_⟩⟩
        · exact of_relabel (env := X.env) (names := scope.names) a3
        · rcases l with ⟨hk', _⟩ | ⟨_, c, hc, o, ho, hd⟩
          · rcases hv with z | z <;> rw [z] at hk' <;> cases hk'
          · obtain ⟨c', hc'⟩ := close_has (env := X.env) scope.names [] x' (.inl (PySem.mem_of_lookup a3))
            have := S.sub I.ok x' c' hc'
            rw [hc] at this
            cases this
            exact ⟨c, hc', o, hk c o ho, hd⟩
  · obtain ⟨v, o, ho, hd⟩ := I.cell x c (S.sub I.ok x c e)
    exact ⟨v, o, hk c o ho, hd⟩
  · have hp' : p ∈ X.pn ++ pins := by
      rcases List.mem_append.mp hp with z | z
      · exact z
      · exact absurd z (by simp)
    obtain ⟨e, n, ne, nf, d⟩ := I.pin p hp'
    exact ⟨hk _ _ e, n, Nat.ne_of_lt (Nat.lt_of_lt_of_le (Heap.lt_size e) hC), I.stkAll ne nf, d⟩
  · show (capS cap σ).length = N'.length
    unfold capS
    rw [List.length_map]
    exact S.len
end

/-- what a comprehension wants: an invariant by the turn, a measure, what has been gathered -/
def tLc (cap : List (Option Nat)) (wi : TI) (g : TG) (tc : TT) (te : TE) : TE := fun σ H Q => wi σ H fun J H1 => ∃ W : Nat → Nat → List V → St → Hp → Prop, (∃ m, W 0 m [] (capS cap σ) H1) ∧ ∀ i m acc σ' H', W i m acc σ' H' →
  (J.stop i H' ∧ ∀ p, H' p = none → Q (.ref p) (upd H' p (.lst acc))) ∨
  (J.go i H' ∧ acc.length < sizeLine ∧ ∃ N : List V → St → Hp → Prop, (∀ acc' σ2 H2, N acc' σ2 H2 → ∃ m', m' < m ∧ W (i + 1) m' acc' σ2 H2) ∧ ∀ x H2, J.yld i H' x H2 → g x σ' H2 fun σ2 H3 => tc σ2 H3 fun b H4 => (b = true ∧ te σ2 H4 fun v H5 => N (acc ++ [v]) σ2 H5) ∨ (b = false ∧ N acc σ2 H4))

section
variable {X : Cx} {N' : List Str} {cap : List (Option Nat)} {scope : Scope}
theorem lc_run {elt tg iter : Expr} {ifs : List Expr} {pos : Pos} {wi : TI} {g : TG} {tc : TT} {te : TE} (hc : X.calm = true) (S : LcSc X N' cap scope) (hi : PI X tg iter wi)
    (hg : ∀ C s H fp pn, PG (lcCx X N' scope C s H fp pn) tg g) (hif : ∀ C s H fp pn, PIfs (lcCx X N' scope C s H fp pn) ifs tc) (he : ∀ C s H fp pn, PE (lcCx X N' scope C s H fp pn) elt te)
    (hs : ∀ x, foldedSetIterable iter X.env x = pure x) {pins : List (Addr × Obj)} {s : Shared} {σ : St} {H : Hp} {Q : VK} (I : Inv X pins σ H s) (h : tLc cap wi g tc te σ H Q)
    {use : Option (Value → Sem Unit)} {QQ : Value → Shared → Prop}
    (post : ∀ (D C : Addr) (H' : Hp) (acc : List V) (s' : Shared), D ≠ C → (∃ m, s'.heap.Ns C m) → (∀ h', Heap.SameBut C s'.heap h' → Inv X pins σ (upd H' D (.lst acc)) { s' with heap := h' }) → FpOk X pins (upd H' D (.lst acc)) C → Q (.ref D) (upd H' D (.lst acc)) → compPost (model X.prog X.w) X.A X.xe use QQ (.ref D) C (.ok .next) s') :
    wpAny (model X.prog X.w) X.A (comprehension (.ListComp elt [⟨tg, iter, ifs, 0⟩] scope pos) scope X.env (firstIterPos [⟨tg, iter, ifs, 0⟩] pos) (newList []) false (firstIter [⟨tg, iter, ifs, 0⟩] X.env) use) QQ X.xe s := by
  refine wpAny_comprehension_free (e := .ListComp elt [⟨tg, iter, ifs, 0⟩] scope pos) (g := ⟨tg, iter, ifs, 0⟩) (gs := []) rfl hs (closure_eq (S.cells I.ok)) S.kind S.names ?_
  refine thn (hi pins s σ H _ I h) fun v s1 h1 => thn h1 fun itv s2 h2 => ?_
  obtain ⟨it, fp, tn, J, H2, e, I2, T, st2, f2, W, ⟨m0, w0⟩, turn⟩ := h2
  subst e
  have fplt : ∀ b ∈ fp, b < s2.heap.objs.size := fun b hb => by
    obtain ⟨o, e, _⟩ := T.obj _ _ st2 b hb
    exact Heap.lt_size e
  refine wpAny_newObj_type (wpAny_newFunctionEnv S.nocell (fun y hy => by simp at hy) (fun h1' hns hsb => ?_) S.kind)
  dsimp only at hns hsb ⊢
  generalize hP : s2.heap.push { cls := .type "list", dict := none, data := .seq ([] : List Value).toArray } = P2 at hns hsb ⊢
  have hsz : P2.objs.size = s2.heap.objs.size + 1 := by rw [← hP, Heap.size_push]
  have hDC : s2.heap.objs.size ≠ P2.objs.size := by rw [hsz]; exact Nat.ne_of_lt (Nat.lt_succ_self _)
  have hC : s2.heap.objs.size ≤ P2.objs.size := by rw [hsz]; exact Nat.le_succ _
  have keepP : ∀ b o, P2.get? b = some o → b ≠ P2.objs.size → h1'.get? b = some o := fun b o e hb => hsb.extBut b o hb (Heap.get?_push_of_some _ e)
  have old : ∀ b o, s2.heap.get? b = some o → h1'.get? b = some o := fun b o e => keepP b o (by rw [← hP]; exact Heap.get?_push_of_some _ e) (Nat.ne_of_lt (Nat.lt_of_lt_of_le (Heap.lt_size e) hC))
  have hD0 : h1'.get? s2.heap.objs.size = some { cls := .type "list", data := .seq #[] 0 } := keepP _ _ (by rw [← hP]; exact Heap.get?_push_size _ rfl) hDC
  have I4 : Inv (lcCx X N' scope P2.objs.size s2 H2 fp pins) [] (capS cap σ) H2 { s2 with heap := h1', toks := s2.toks + ([] : List (Str × Value)).length } :=
    lc_start S I2 f2 fplt hC (by simpa using hns) old
  -- the loop
  have loop : ∀ s4 : Shared, s4 = { s2 with heap := h1', toks := s2.toks + ([] : List (Str × Value)).length } →
      codeAny (model X.prog X.w) X.A (.compLoop (.ListComp elt [⟨tg, iter, ifs, 0⟩] scope pos) 0 (.ref it) (.ref s2.heap.objs.size) (compEnvC scope (closeOf X.env scope.names []) P2.objs.size X.env)) (compPost (model X.prog X.w) X.A X.xe use QQ (.ref s2.heap.objs.size) P2.objs.size) s4 := by
    rintro s4 rfl
    have hfrD : s2.heap.objs.size ∉ frs X.stack := fun hb => by
      obtain ⟨_, o, ho, _⟩ := I2.stack.mem hb
      exact absurd (Heap.lt_size ho) (Nat.lt_irrefl _)
    have cne : ∀ x c, (closeOf X.env scope.names []).lookup x = some c → c < s2.heap.objs.size := fun x c e => by
      obtain ⟨v, q⟩ := I2.cell x c (S.sub I2.ok x c e)
      exact q.lt
    have stat : ∀ {Hx : Hp} {ob : Obj}, (∀ b ∈ fp, Hx b = none) → ∀ b ∈ fp, FpOk (lcCx X N' scope P2.objs.size s2 H2 fp pins) [(s2.heap.objs.size, ob)] Hx b := fun {Hx ob} hn b hb => by
      refine ⟨hn b hb, Nat.ne_of_lt (Nat.lt_of_lt_of_le (fplt b hb) hC), I2.stkAll (f2 b hb).2.1 (f2 b hb).2.2.1, .inl hb, fun x c e => (f2 b hb).2.2.2.2.1 x c (S.sub I2.ok x c e), fun p hp => ?_⟩
      rcases List.mem_append.mp hp with z | z
      · exact (f2 b hb).2.2.2.2.2 p z
      · rw [List.mem_singleton.mp z]
        exact Nat.ne_of_gt (fplt b hb)
    refine lc_loop (fun n s' => ∃ (i : Nat) (σ' : St) (H' : Hp) (acc : List V) (its : List Value) (nn : Nat), Inv (lcCx X N' scope P2.objs.size s2 H2 fp pins) [] σ' H' s' ∧ tn i s'.heap ∧ (∀ b ∈ fp, H' b = none) ∧ H' s2.heap.objs.size = none ∧
      s'.heap.get? s2.heap.objs.size = some { cls := .type "list", data := .seq its.toArray nn } ∧ Vals acc its ∧ acc.length ≤ sizeLine ∧ W i n acc σ' H') ?_ m0
      ⟨0, capS cap σ, H2, [], [], 0, I4, T.keep _ _ _ st2 fun b _ o e => old b o e, fun b hb => (f2 b hb).1, I2.hok.fresh (Nat.le_refl _), hD0, .nil, Nat.zero_le _, w0⟩
    rintro n s5 ⟨i, σ', H', acc, its, nn, I5, t5, fr5, d5, g5, va, la, w5⟩
    have I5p : Inv (lcCx X N' scope P2.objs.size s2 H2 fp pins) [(s2.heap.objs.size, { cls := .type "list", data := .seq its.toArray nn })] σ' H' s5 := I5.pins_of fun p hp => by
      rw [List.mem_singleton.mp hp]
      exact ⟨g5, d5, hDC, hfrD, fun v z => by cases z⟩
    rcases turn i n acc σ' H' w5 with ⟨stop, q⟩ | ⟨go, lt, N, hN, step⟩
    · refine thn (T.done (lcCx X N' scope P2.objs.size s2 H2 fp pins) rfl rfl rfl hc i _ s5 σ' H' _ I5p (stat fr5) t5 stop) fun r s6 ⟨hr, I6⟩ => .inl ⟨hr, ?_⟩
      have d6 := (I6.pin (s2.heap.objs.size, { cls := .type "list", data := .seq its.toArray nn }) (by simp)).1
      have nC : H' P2.objs.size = none := I6.free
      refine post _ _ H' acc s6 hDC (let ⟨m, hn, _⟩ := I6.loc; ⟨m, hn⟩) (fun h' hs' => ?_) (I2.fpOk hC (by rw [upd_ne hDC.symm]; exact nC)) (q _ d5)
      have up : ∀ b o, b ≠ P2.objs.size → s6.heap.get? b = some o → h'.get? b = some o := fun b o hb e => hs'.extBut b o hb e
      have ltC : ∀ b o, s2.heap.get? b = some o → b ≠ P2.objs.size ∧ b ≠ s2.heap.objs.size := fun b o e => ⟨Nat.ne_of_lt (Nat.lt_of_lt_of_le (Heap.lt_size e) hC), Nat.ne_of_lt (Heap.lt_size e)⟩
      have u6 : Un (frs X.stack) fp H2 H' s2.heap s6.heap := I6.base
      have u7 : Un (frs X.stack) fp H2 (upd H' s2.heap.objs.size (.lst acc)) s2.heap h' := by
        refine ⟨fun b o e n hb hx => up b o (ltC b o e).1 (u6.keep b o e n hb hx), fun b o e n hb hx => ?_, fun b o e n hx => ?_, fun b o e hx => ?_, fun b xs e => ?_, fun b o u e => ?_, fun b ps e => ?_⟩
        · obtain ⟨sl, q⟩ := u6.slot b o e n hb hx
          exact ⟨sl, up b _ (ltC b o e).1 q⟩
        · rw [upd_ne (ltC b o e).2]
          exact u6.free b o e n hx
        · obtain ⟨o', q⟩ := u6.there b o e hx
          exact ⟨o', up b o' (ltC b o e).1 q⟩
        · have z := u6.tups b xs e
          rw [upd_ne (ne_of_none z d5)]
          exact z
        · have z := u6.frzs b o u e
          rw [upd_ne (ne_of_none z d5)]
          exact z
        · obtain ⟨more, z⟩ := u6.tbls b ps e
          exact ⟨more, by rw [upd_ne (ne_of_none z d5)]; exact z⟩
      have ok7 : HOk X.prog X.w (upd H' s2.heap.objs.size (.lst acc)) h' := fun b u e => by
        by_cases hb : b = s2.heap.objs.size
        · subst hb
          rw [upd_same] at e
          cases e
          exact ⟨la, its, nn, va, up _ _ hDC d6⟩
        · rw [upd_ne hb] at e
          refine (I6.hok b u e).stay (fun c v hc' z => up c v ?_ z) (fun c z => by rw [upd_ne (ne_of_none z d5)]; exact z) fun c xs z => by rw [upd_ne (ne_of_none z d5)]; exact z
          rcases hc' with rfl | z
          · exact ne_of_none e nC
          · exact ne_of_none z nC
      have os6 : s6.os = s2.os := I6.os
      have ba6 := I6.bare
      obtain ⟨hh, gg, dd, tt, oo⟩ := s6
      subst os6
      have z7 := I2.call (s := s2) (h' := h') (g' := gg) (d' := dd) (t' := tt) (ch := fp) u7 ok7 ba6 fun b hb => ⟨(f2 b hb).2.2.2.1, (f2 b hb).2.1, (f2 b hb).2.2.2.2.1, (f2 b hb).2.2.2.2.2⟩
      exact z7
    · refine thn (T.item (lcCx X N' scope P2.objs.size s2 H2 fp pins) rfl rfl rfl hc i _ s5 σ' H' _ I5p (stat fr5) t5 go) fun r s6 ⟨u, hr, h6⟩ => .inr ⟨u, hr, ?_⟩
      refine thn h6 fun _ s7 ⟨x, H7, I7, r7, y7, t7, fr7⟩ => ?_
      have I7' := I7.pinned (stat fr7) (T.obj _ _ t7)
      have back : ∀ {σx : St} {Hx : Hp} {sx : Shared}, Inv (lcCx X N' scope P2.objs.size s2 H2 fp pins) ([(s2.heap.objs.size, { cls := .type "list", data := .seq its.toArray nn })] ++ pinsAt fp s7.heap) σx Hx sx →
          (∀ b ∈ fp, ∀ o, s7.heap.get? b = some o → sx.heap.get? b = some o) ∧ (∀ b ∈ fp, Hx b = none) ∧ sx.heap.get? s2.heap.objs.size = some { cls := .type "list", data := .seq its.toArray nn } ∧ Hx s2.heap.objs.size = none := fun {σx Hx sx} Ix => by
        refine ⟨fun b hb o e => (Ix.pin (b, o) (List.mem_append_right _ (List.mem_append_right _ (mem_pinsAt hb e)))).1, fun b hb => ?_, ?_, ?_⟩
        · obtain ⟨o, e, _⟩ := T.obj _ _ t7 b hb
          exact (Ix.pin (b, o) (List.mem_append_right _ (List.mem_append_right _ (mem_pinsAt hb e)))).2.1
        · exact (Ix.pin (s2.heap.objs.size, _) (List.mem_append_right _ (List.mem_append_left _ (List.mem_singleton.mpr rfl)))).1
        · exact (Ix.pin (s2.heap.objs.size, { cls := .type "list", data := .seq its.toArray nn }) (List.mem_append_right _ (List.mem_append_left _ (List.mem_singleton.mpr rfl)))).2.1
      refine thn (hg _ _ _ _ _ _ s7 σ' H7 x u _ I7' r7 (step x H7 y7)) fun _ s8 ⟨σ8, H8, I8, q8⟩ => ?_
      refine thn (hif _ _ _ _ _ _ s8 σ8 H8 _ I8 q8) fun b s9 ⟨H9, I9, q9⟩ => ?_
      rcases q9 with ⟨rfl, q9⟩ | ⟨rfl, n9⟩
      · refine .inl ⟨rfl, thn (he _ _ _ _ _ _ s9 σ8 H9 _ I9 q9) fun uv s10 ⟨v, H10, I10, rv, n10⟩ => ?_⟩
        obtain ⟨m', hm, w10⟩ := hN _ _ _ n10
        obtain ⟨b1, b2, b3, b4⟩ := back I10
        refine wpAny_list_append_plain ⟨nn, b3⟩ (fun h' hp hs' => ?_) (by rw [List.size_toArray, ← va.length]; exact la)
        obtain ⟨n2, e2⟩ := hp
        have up : ∀ b o, b ≠ s2.heap.objs.size → s10.heap.get? b = some o → h'.get? b = some o := fun b o hb e => hs'.extBut b o hb e
        have I10' : Inv (lcCx X N' scope P2.objs.size s2 H2 fp pins) [] σ8 H10 s10 := I10.pins_of fun p hp => absurd hp (by simp)
        refine ⟨m', hm, i + 1, σ8, H10, acc ++ [v], its ++ [uv], n2, I10'.turned (t' := s10.toks) up b4 hDC (.inr (Nat.le_refl _)) (fun x c e => Nat.ne_of_lt (cne x c e)) (fun p hp => ?_), T.keep _ _ _ t7 fun b hb o e => up b o (Nat.ne_of_lt (fplt b hb)) (b1 b hb o e), b2, b4, ?_, va.append (.cons rv .nil), ?_, w10⟩
        · have hp' : p ∈ X.pn ++ pins := by
            rcases List.mem_append.mp hp with z | z
            · exact z
            · exact absurd z (by simp)
          exact Nat.ne_of_lt (Heap.lt_size (I2.pin p hp').1)
        · rw [e2]
          simp
        · rw [List.length_append, List.length_singleton]
          exact lt
      · obtain ⟨m', hm, w9⟩ := hN _ _ _ n9
        obtain ⟨b1, b2, b3, b4⟩ := back I9
        exact .inr ⟨rfl, m', hm, i + 1, σ8, H9, acc, its, nn, I9.pins_of fun p hp => absurd hp (by simp), T.keep _ _ _ t7 b1, b2, b4, b3, va, la, w9⟩
  exact codeAny_compStart_list (loop _ rfl) (T.self _ 0 _ _ _ (T.keep _ _ _ st2 fun b _ o e => old b o e) (loop _ rfl))

/-- [elt for target in iter if ..] -/
theorem pe_lc {elt tg iter : Expr} {ifs : List Expr} {pos : Pos} {wi : TI} {g : TG} {tc : TT} {te : TE} (hc : X.calm = true) (S : LcSc X N' cap scope) (hi : PI X tg iter wi)
    (hg : ∀ C s H fp pn, PG (lcCx X N' scope C s H fp pn) tg g) (hif : ∀ C s H fp pn, PIfs (lcCx X N' scope C s H fp pn) ifs tc) (he : ∀ C s H fp pn, PE (lcCx X N' scope C s H fp pn) elt te)
    (hs : ∀ x, foldedSetIterable iter X.env x = pure x := by intro _; rfl) : PE X (.ListComp elt [⟨tg, iter, ifs, 0⟩] scope pos) (tLc cap wi g tc te) := by
  intro pins s σ H Q I h
  rw [eval_ListComp]
  refine lc_run (use := none) (Q := Q) hc S hi hg hif he hs I h fun D C H' acc s' hDC ⟨m, hn⟩ hI _ hq => ⟨m, hn, fun h' hs' => ?_⟩
  exact ⟨.ref D, _, hI h' hs', rfl, hq⟩
/-- x = [elt for target in iter if ..], x a plain local: the list is stored while the block's names still stand -/
theorem ps_setLc {i : Nat} {x : Str} {elt tg iter : Expr} {ifs : List Expr} {pos pos' pos'' : Pos} {wi : TI} {g : TG} {tc : TT} {te : TE} (hN : X.N.Nodup) (hix : X.N[i]? = some x) (hc : X.calm = true) (S : LcSc X N' cap scope) (hi : PI X tg iter wi)
    (hg : ∀ C s H fp pn, PG (lcCx X N' scope C s H fp pn) tg g) (hif : ∀ C s H fp pn, PIfs (lcCx X N' scope C s H fp pn) ifs tc) (he : ∀ C s H fp pn, PE (lcCx X N' scope C s H fp pn) elt te)
    (hsw : swapsWith (.ListComp elt [⟨tg, iter, ifs, 0⟩] scope pos) (some (.Name x pos')) pos''.line X.env = pure true := by rfl) (hx : X.env.scope.names.lookup x = some .local := by rfl)
    (hs : ∀ x, foldedSetIterable iter X.env x = pure x := by intro _; rfl) : PS X (.Assign [.Name x pos'] (.ListComp elt [⟨tg, iter, ifs, 0⟩] scope pos) pos'') (tAsg (tLc cap wi g tc te) (gName i)) := by
  intro pins s σ H D I h
  rw [exec_Assign_Name_used _ _ _ _ hsw]
  refine wpAny_bind (wpAny_standAt (wpAny_bind ?_))
  show wpAny _ _ (comprehension (.ListComp elt [⟨tg, iter, ifs, 0⟩] scope pos) scope X.env _ (newList []) false (firstIter [⟨tg, iter, ifs, 0⟩] X.env) (some (assign (.Name x pos') X.env)) >>= fun _ => pure ()) _ _ s
  refine wpAny_bind (thn (lc_run (use := some (assign (.Name x pos') X.env)) (QQ := fun _ s' => ∃ σ' H', Inv X pins σ' H' s' ∧ D.nx σ' H') (Q := fun v H1 => gName i v σ H1 D.nx) hc S hi hg hif he hs I h fun E C H' acc s' hDC ⟨m, hn⟩ hI fC hq => ?_) fun _ s' hz => wpAny_pure (wpAny_pure hz))
  have I1 : Inv X pins σ (upd H' E (.lst acc)) s' := hI s'.heap (Heap.SameBut.refl ..)
  have I1 : Inv X pins σ (upd H' E (.lst acc)) s' := I1
  refine wpAny_assign_Name (store_ok2 (M := model X.prog X.w) (A := X.A) (E := X.xe) I1 hN hix (.inl hx) (v := .ref E) (u := .ref E) rfl (fun s2 I2 hsb => ?_) (.inr hx))
  obtain ⟨a, hs2, ha⟩ := hsb
  have hne : C ≠ a := by
    rcases ha with z | z
    · rw [z]; exact fC.2.1
    · exact fun w => fC.2.2.2.2.1 x a z w.symm
  refine ⟨m, hn.extBut hs2.extBut hne, fun h' hs' => ?_⟩
  exact ⟨_, _, I2.turned (t' := s2.toks) (fun b o hb e => hs'.extBut b o hb e) fC.1 fC.2.1 fC.2.2.2.1 fC.2.2.2.2.1 fC.2.2.2.2.2, hq⟩
end
end L2

end

section
set_option Elab.async false
set_option linter.all false
set_option maxRecDepth 100000
set_option maxHeartbeats 4000000
namespace L2
open PySem PySem.Spec PyProof.Rows

/-! ## data that stands in the abstract heap -/
def keyD : Key → PyData
  | .inl i => .int i
  | .inr x => .str x
mutual
def Rep (K : PySem.W.Frag) (H : Hp) : PyData → V → Prop
  | .none, v => v = .non
  | .bool b, v => v = .bl b
  | .int i, v => v = .int i
  | .str x, v => v = .str x
  | .list xs, v => ∃ a vs, v = .ref a ∧ SqL K H a vs ∧ RepAll K H xs vs
  | .tuple xs, v => ∃ a vs, v = .ref a ∧ SqT K H a vs ∧ RepAll K H xs vs
  | .dict kvs, v => ∃ a ks, v = .ref a ∧ H a = some (.dK ks) ∧ RepKV K H kvs ks
def RepAll (K : PySem.W.Frag) (H : Hp) : List PyData → List V → Prop
  | [], vs => vs = []
  | d :: ds, vs => ∃ v r, vs = v :: r ∧ Rep K H d v ∧ RepAll K H ds r
def RepKV (K : PySem.W.Frag) (H : Hp) : List (PyData × PyData) → List (Key × V) → Prop
  | [], ks => ks = []
  | (k, d) :: kvs, ks => ∃ k' v r, ks = (k', v) :: r ∧ k = keyD k' ∧ Rep K H d v ∧ RepKV K H kvs r
end
theorem Same.seqT {K : PySem.W.Frag} {H H' : Hp} {a : Addr} {xs : List V} (e : Same H H') (h : SqT K H a xs) : SqT K H' a xs := by
  rcases h with h | h
  · refine .inl ?_
    rcases h with h | ⟨o, h⟩
    · exact .inl (e _ _ h)
    · exact .inr ⟨o, e _ _ h⟩
  · exact .inr h
mutual
theorem Rep.same {K : PySem.W.Frag} {H H' : Hp} (e : Same H H') : ∀ (d : PyData) (v : V), Rep K H d v → Rep K H' d v
  | .none, v, h => h
  | .bool b, v, h => h
  | .int i, v, h => h
  | .str x, v, h => h
  | .list xs, v, h => by
    obtain ⟨a, vs, h1, h2, h3⟩ := h
    exact ⟨a, vs, h1, e.seq h2, RepAll.same e xs vs h3⟩
  | .tuple xs, v, h => by
    obtain ⟨a, vs, h1, h2, h3⟩ := h
    exact ⟨a, vs, h1, e.seqT h2, RepAll.same e xs vs h3⟩
  | .dict kvs, v, h => by
    obtain ⟨a, ks, h1, h2, h3⟩ := h
    exact ⟨a, ks, h1, e _ _ h2, RepKV.same e kvs ks h3⟩
theorem RepAll.same {K : PySem.W.Frag} {H H' : Hp} (e : Same H H') : ∀ (ds : List PyData) (vs : List V), RepAll K H ds vs → RepAll K H' ds vs
  | [], vs, h => h
  | d :: ds, vs, h => by
    obtain ⟨v, r, h1, h2, h3⟩ := h
    exact ⟨v, r, h1, Rep.same e d v h2, RepAll.same e ds r h3⟩
theorem RepKV.same {K : PySem.W.Frag} {H H' : Hp} (e : Same H H') : ∀ (kvs : List (PyData × PyData)) (ks : List (Key × V)), RepKV K H kvs ks → RepKV K H' kvs ks
  | [], ks, h => h
  | (k, d) :: kvs, ks, h => by
    obtain ⟨k', v, r, h1, h2, h3, h4⟩ := h
    exact ⟨k', v, r, h1, h2, Rep.same e d v h3, RepKV.same e kvs r h4⟩
end
theorem RepAll.length {K : PySem.W.Frag} {H : Hp} : ∀ {ds : List PyData} {vs : List V}, RepAll K H ds vs → ds.length = vs.length
  | [], vs, h => by rw [show vs = [] from h]; rfl
  | d :: ds, vs, h => by
    obtain ⟨v, r, h1, _, h3⟩ := h
    rw [h1, List.length_cons, List.length_cons, RepAll.length h3]
theorem RepAll.get {K : PySem.W.Frag} {H : Hp} : ∀ {ds : List PyData} {vs : List V} {i : Nat} {v : V}, RepAll K H ds vs → vs[i]? = some v → ∃ d, ds[i]? = some d ∧ Rep K H d v
  | [], vs, i, v, h, e => by rw [show vs = [] from h] at e; simp at e
  | d :: ds, vs, 0, v, h, e => by
    obtain ⟨w, r, h1, h2, h3⟩ := h
    rw [h1] at e
    simp at e
    subst e
    exact ⟨d, rfl, h2⟩
  | d :: ds, vs, i + 1, v, h, e => by
    obtain ⟨w, r, h1, h2, h3⟩ := h
    rw [h1] at e
    exact RepAll.get (i := i) h3 (by simpa using e)
theorem RepAll.app {K : PySem.W.Frag} {H : Hp} : ∀ {ds es : List PyData} {vs ws : List V}, RepAll K H ds vs → RepAll K H es ws → RepAll K H (ds ++ es) (vs ++ ws)
  | [], es, vs, ws, h, k => by rw [show vs = [] from h]; exact k
  | d :: ds, es, vs, ws, h, k => by
    obtain ⟨v, r, h1, h2, h3⟩ := h
    exact ⟨v, r ++ ws, by rw [h1]; rfl, h2, RepAll.app h3 k⟩

section
variable {X : Cx} {pins : List (Addr × Obj)} {σ : St} {H : Hp} {s : Shared}
theorem Inv.sysN (I : Inv X pins σ H s) : H sysModules = none := by
  obtain ⟨o, es, ep, h, _⟩ := I.mod.sysm
  exact (I.bs _ _ h).2
theorem Inv.sysL (I : Inv X pins σ H s) {a : Addr} {xs : List V} (h : SqL X.K H a xs) : sysModules ≠ a := by
  intro e
  subst e
  have hn := I.sysN
  rcases h with (h | ⟨o, h⟩) | ⟨o, its, n, hk, _, _, hd, _⟩
  · rw [hn] at h; cases h
  · rw [hn] at h; cases h
  · obtain ⟨o', es, ep, h', hd'⟩ := I.mod.sysm
    have := I.mod.kin _ _ hk
    rw [h'] at this
    cases this
    rw [hd] at hd'
    cases hd'
mutual
theorem Rep.reads' (I : Inv X pins σ H s) : ∀ (d : PyData) (v : V) (u : Value), Rep X.K H d v → RelV v u → ∃ as, Reads s.heap u d as ∧ sysModules ∉ as
  | .none, v, u, r, q => by
    rw [show v = .non from r] at q
    rw [show u = Value.none from q]
    exact ⟨_, .none, by simp⟩
  | .bool b, v, u, r, q => by
    rw [show v = .bl b from r] at q
    rw [show u = Value.bool b from q]
    exact ⟨_, .bool b, by simp⟩
  | .int i, v, u, r, q => by
    rw [show v = .int i from r] at q
    obtain ⟨t, rfl⟩ := (show ∃ t, u = Value.int i t from q)
    exact ⟨_, .int i t, by simp⟩
  | .str x, v, u, r, q => by
    rw [show v = .str x from r] at q
    obtain ⟨t, rfl⟩ := (show ∃ t, u = Value.str x t from q)
    exact ⟨_, .str x t, by simp⟩
  | .list xs, v, u, r, q => by
    obtain ⟨a, vs, rfl, h2, h3⟩ := r
    rw [show u = Value.ref a from q]
    obtain ⟨its, hv, ⟨o, n, hg, hc, _, hd⟩, _⟩ := I.list h2
    obtain ⟨as, ha, hs⟩ := RepAll.reads' I xs vs its h3 hv
    exact ⟨_, .list hg hc hd (by simpa using ha), fun z => (List.mem_cons.mp z).elim (I.sysL h2) hs⟩
  | .tuple xs, v, u, r, q => by
    obtain ⟨a, vs, rfl, h2, h3⟩ := r
    rw [show u = Value.ref a from q]
    obtain ⟨its, hv, ⟨o, hg, hc, n, hd⟩, _⟩ := I.tuple h2
    obtain ⟨as, ha, hs⟩ := RepAll.reads' I xs vs its h3 hv
    exact ⟨_, .tuple hg hc hd (by simpa using ha), hs⟩
  | .dict kvs, v, u, r, q => by
    obtain ⟨a, ks, rfl, h2, h3⟩ := r
    rw [show u = Value.ref a from q]
    obtain ⟨_, hS, vs, hkv, o, es, ep, hg, hex, hd, _, hp, _⟩ := (show ObjOk X.prog X.w H s.heap a (.dK ks) from I.hok a _ h2)
    obtain ⟨as, bs, h4, h5, n1, n2⟩ := RepKV.reads' I kvs ks vs es.toList h3 hkv hp
    refine ⟨_, .dict hg hex.1 hd h4 h5, fun z => ?_⟩
    rcases List.mem_append.mp z with z | z
    · rcases List.mem_cons.mp z with z | z
      · rw [z] at hS; simp at hS
      · exact n1 z
    · exact n2 z
theorem RepAll.reads' (I : Inv X pins σ H s) : ∀ (ds : List PyData) (vs : List V) (us : List Value), RepAll X.K H ds vs → Vals vs us → ∃ as, ReadsAll s.heap us ds as ∧ sysModules ∉ as
  | [], vs, us, r, q => by
    rw [show vs = [] from r] at q
    cases q
    exact ⟨_, .nil, by simp⟩
  | d :: ds, vs, us, r, q => by
    obtain ⟨v, t, rfl, h2, h3⟩ := r
    cases q with
    | cons q1 q2 =>
      obtain ⟨as, ha, n1⟩ := Rep.reads' I d v _ h2 q1
      obtain ⟨bs, hb, n2⟩ := RepAll.reads' I ds t _ h3 q2
      exact ⟨_, .cons ha hb, fun z => (List.mem_append.mp z).elim n1 n2⟩
theorem RepKV.reads' (I : Inv X pins σ H s) : ∀ (kvs : List (PyData × PyData)) (ks : List (Key × V)) (vs : List (Key × Value)) (es : List DictEntry), RepKV X.K H kvs ks → KV ks vs → Pairs (mixKind X.prog X.w) es vs →
    ∃ as bs, ReadsAll s.heap (es.map (·.key)) (kvs.map (·.1)) as ∧ ReadsAll s.heap (es.map (·.val)) (kvs.map (·.2)) bs ∧ sysModules ∉ as ∧ sysModules ∉ bs
  | [], ks, vs, es, r, q, p => by
    rw [show ks = [] from r] at q
    cases q
    cases p
    exact ⟨_, _, .nil, .nil, by simp, by simp⟩
  | (k, d) :: kvs, ks, vs, es, r, q, p => by
    obtain ⟨k', v, t, rfl, h1, h2, h3⟩ := r
    cases q with
    | @cons _ kv _ vs' q1 q2 =>
      cases p with
      | @cons e _ es' _ p1 p2 p3 =>
        obtain ⟨as, bs, ha, hb, n1, n2⟩ := RepKV.reads' I kvs t _ _ h3 q2 p3
        obtain ⟨cs, hc, n3⟩ := Rep.reads' I d v _ h2 q1.2
        have hkey : Reads s.heap e.key k [] := by
          rw [h1]
          have p1' : keyIs kv.1 e.key = true := p1
          rw [← show k' = kv.1 from q1.1] at p1'
          rcases keyIs_shape p1' with ⟨i, t', rfl, he⟩ | ⟨x, t', rfl, he⟩
          · rw [he]; exact .int i t'
          · rw [he]; exact .str x t'
        refine ⟨_, _, .cons hkey ha, .cons (show Reads s.heap e.val d cs by rw [p2]; exact hc) hb, by simpa using n1, fun z => (List.mem_append.mp z).elim n3 n2⟩
end
theorem Rep.reads (I : Inv X pins σ H s) (d : PyData) (v : V) (u : Value) (r : Rep X.K H d v) (q : RelV v u) : ∃ as, Reads s.heap u d as := let ⟨as, h, _⟩ := Rep.reads' I d v u r q; ⟨as, h⟩
theorem RepAll.reads (I : Inv X pins σ H s) (ds : List PyData) (vs : List V) (us : List Value) (r : RepAll X.K H ds vs) (q : Vals vs us) : ∃ as, ReadsAll s.heap us ds as := let ⟨as, h, _⟩ := RepAll.reads' I ds vs us r q; ⟨as, h⟩
end

section
variable {X : Cx}
/-! ## == and in, of data -/
def rEqD (K : PySem.W.Frag) (neg : Bool) : R2 := fun x y H Q => ∃ dx dy, Rep K H dx x ∧ Rep K H dy y ∧ SeqAt.shaped dx = true ∧ SeqAt.shaped dy = true ∧ Q (.bl (if neg then !PyData.eqv dx dy else PyData.eqv dx dy)) H
theorem op_eqD (hu : X.A.units + 64 < cLine) : OpR X (compareOp .Eq) (rEqD X.K false) := by
  intro pins s σ H x y v u Q I rx ry h
  obtain ⟨dx, dy, hx, hy, sx, sy, q⟩ := h
  obtain ⟨as, ha⟩ := Rep.reads I dx x v hx rx
  obtain ⟨bs, hb⟩ := Rep.reads I dy y u hy ry
  exact eq_dataH ha hb sx sy hu ⟨.bl _, H, I, rfl, q⟩
theorem op_neD (hu : X.A.units + 64 < cLine) : OpR X (compareOp .NotEq) (rEqD X.K true) := by
  intro pins s σ H x y v u Q I rx ry h
  obtain ⟨dx, dy, hx, hy, sx, sy, q⟩ := h
  obtain ⟨as, ha⟩ := Rep.reads I dx x v hx rx
  obtain ⟨bs, hb⟩ := Rep.reads I dy y u hy ry
  exact ne_dataH ha hb sx sy hu ⟨.bl _, H, I, rfl, q⟩


open Classical in
/-- does a value's data equal dv? -/
noncomputable def eqU' (h : Heap) (dv : PyData) (u : Value) : Bool := if ∃ d as, Reads h u d as ∧ PyData.eqv d dv = true then true else false
theorem eqU'_of {h : Heap} {dv d : PyData} {u : Value} {as : List Addr} (r : Reads h u d as) (hc : d.canLay0 = true) : eqU' h dv u = PyData.eqv d dv := by
  unfold eqU'
  by_cases e : PyData.eqv d dv = true
  · rw [if_pos ⟨d, as, r, e⟩, e]
  · rw [if_neg, Bool.eq_false_iff.mpr e]
    rintro ⟨d', as', r', e'⟩
    have := SeqAt.Reads.unique d d' u as as' hc r r'
    subst this
    exact e e'
theorem inD_list {A : Around} {s : Shared} {v : Value} {dv : PyData} {av : List Addr} (hv : Reads s.heap v dv av) (sv : SeqAt.shaped dv = true) (hu : A.units + 64 < cLine) :
    ∀ (us : List Value) (ds : List PyData) (as : List Addr), ReadsAll s.heap us ds as → ds.all SeqAt.shaped = true → (∀ y ∈ us, SeqAt.EqAt A s y v (eqU' s.heap dv y)) ∧ us.any (eqU' s.heap dv) = ds.any fun d => PyData.eqv d dv
  | [], ds, as, r, _ => by
    cases r
    exact ⟨fun y hy => absurd hy (by simp), rfl⟩
  | y :: us, ds, as, r, hs => by
    cases r with
    | @cons _ _ d ds' as1 bs1 r1 r2 =>
      rw [List.all_cons, Bool.and_eq_true] at hs
      obtain ⟨h1, h2⟩ := inD_list hv sv hu us _ _ r2 hs.2
      have e := eqU'_of (dv := dv) r1 (SeqAt.canLay_of_shaped hs.1)
      have hy : SeqAt.EqAt A s y v (PyData.eqv d dv) := SeqAt.eqAt_reads d dv A s y v _ _ r1 hv (SeqAt.canLay_of_shaped hs.1) (SeqAt.canLay_of_shaped sv) (SeqAt.room_of_shaped hs.1 hu)
      refine ⟨fun z hz => ?_, by rw [List.any_cons, List.any_cons, e, h2]⟩
      rcases List.mem_cons.mp hz with q | q
      · rw [q, e]; exact hy
      · exact h1 z q
/-- x in a list or tuple of data -/
def rInD (K : PySem.W.Frag) (neg : Bool) : R2 := fun x y H Q => ∃ dx ds p vs, Rep K H dx x ∧ y = .ref p ∧ (SqL K H p vs ∨ SqT K H p vs) ∧ RepAll K H ds vs ∧ SeqAt.shaped dx = true ∧ ds.all SeqAt.shaped = true ∧
  Q (.bl (if neg then !ds.any fun d => PyData.eqv d dx else ds.any fun d => PyData.eqv d dx)) H
theorem op_inD (hu : X.A.in1.units + 64 < cLine) : OpR X (compareOp .In) (rInD X.K false) := by
  intro pins s σ H x y v u Q I rx ry h
  obtain ⟨dx, ds, p, vs, hx, rfl, hp, hds, sx, sds, q⟩ := h
  cases ry
  obtain ⟨as, ha⟩ := Rep.reads I dx x v hx rx
  rcases hp with hp | hp
  · obtain ⟨its, r, pl, hz⟩ := I.list hp
    obtain ⟨bs, hb⟩ := RepAll.reads I ds vs its hds r
    obtain ⟨h1, h2⟩ := inD_list (A := X.A.in1) ha sx hu its ds bs hb sds
    refine SeqAt.in_listAt (eqU' s.heap dx) pl.isList (fun w hw => h1 w (by simpa using hw)) ⟨.bl _, H, I, rfl, ?_⟩
    rw [show its.toArray.any (eqU' s.heap dx) = its.any (eqU' s.heap dx) by simp, h2]
    exact q
  · obtain ⟨its, r, pl, hz⟩ := I.tuple hp
    obtain ⟨bs, hb⟩ := RepAll.reads I ds vs its hds r
    obtain ⟨h1, h2⟩ := inD_list (A := X.A.in1) ha sx hu its ds bs hb sds
    refine SeqAt.in_tupleAt (eqU' s.heap dx) pl (fun w hw => h1 w (by simpa using hw)) ⟨.bl _, H, I, rfl, ?_⟩
    rw [show its.toArray.any (eqU' s.heap dx) = its.any (eqU' s.heap dx) by simp, h2]
    exact q
theorem op_notInD (hu : X.A.in1.units + 64 < cLine) : OpR X (compareOp .NotIn) (rInD X.K true) := by
  intro pins s σ H x y v u Q I rx ry h
  obtain ⟨dx, ds, p, vs, hx, rfl, hp, hds, sx, sds, q⟩ := h
  cases ry
  obtain ⟨as, ha⟩ := Rep.reads I dx x v hx rx
  rcases hp with hp | hp
  · obtain ⟨its, r, pl, hz⟩ := I.list hp
    obtain ⟨bs, hb⟩ := RepAll.reads I ds vs its hds r
    obtain ⟨h1, h2⟩ := inD_list (A := X.A.in1) ha sx hu its ds bs hb sds
    refine SeqAt.notIn_listAt (eqU' s.heap dx) pl.isList (fun w hw => h1 w (by simpa using hw)) ⟨.bl _, H, I, rfl, ?_⟩
    rw [show its.toArray.any (eqU' s.heap dx) = its.any (eqU' s.heap dx) by simp, h2]
    exact q
  · obtain ⟨its, r, pl, hz⟩ := I.tuple hp
    obtain ⟨bs, hb⟩ := RepAll.reads I ds vs its hds r
    obtain ⟨h1, h2⟩ := inD_list (A := X.A.in1) ha sx hu its ds bs hb sds
    refine SeqAt.notIn_tupleAt (eqU' s.heap dx) pl (fun w hw => h1 w (by simpa using hw)) ⟨.bl _, H, I, rfl, ?_⟩
    rw [show its.toArray.any (eqU' s.heap dx) = its.any (eqU' s.heap dx) by simp, h2]
    exact q

/-! ## isinstance -/
/-- the built-in type of a value, by its name -/
def TyN (K : PySem.W.Frag) (H : Hp) (x : V) (T : String) : Prop := TyOf K H x (.type T)
theorem call_isi : CallR X (.builtin "isinstance") (fun xs H Q => ∃ x T t b, xs = [x, .ty T] ∧ TyOf X.K H x t ∧ PySem.W.kitOne X.K t (.type T) = some b ∧ Q (.bl b) H) := by
  intro pins s σ H xs us Q I r h
  obtain ⟨x, T, t, b, rfl, ty, e, q⟩ := h
  obtain ⟨u, u', rfl, ru, ru'⟩ := vals2 r
  cases (show u' = Value.type T from ru')
  exact isinst_ok I ru ty e fun tk => ⟨.bl b, H, I.tok tk, rfl, q⟩
theorem Vals.types : ∀ {Ts : List String} {its : List Value}, Vals (Ts.map V.ty) its → its = Ts.map Value.type
  | [], _, h => by cases h; rfl
  | t :: Ts, its, h => by
    cases h with
    | cons r1 r2 => rw [show _ = Value.type t from r1, Vals.types r2]; rfl
/-- isinstance(x, (S, T)) of built-in types -/
theorem call_isi2 : CallR X (.builtin "isinstance") (fun xs H Q => ∃ x p ts T b, xs = [x, .ref p] ∧ TyN X.K H x T ∧ H p = some (.tup ts) ∧ (∃ Ts : List String, ts = Ts.map V.ty ∧ PySem.W.kitAny X.K (.type T) (Ts.map Value.type) = some b) ∧ Q (.bl b) H) := by
  intro pins s σ H xs us Q I r h
  obtain ⟨x, p, ts, T, b, rfl, ty, hp, ⟨Ts, rfl, e⟩, q⟩ := h
  obtain ⟨u, u', rfl, ru, ru'⟩ := vals2 r
  cases (show u' = Value.ref p from ru')
  obtain ⟨_, its, rv, o, hg, hcl, n, hd⟩ := (show ObjOk X.prog X.w H s.heap p (.tup (Ts.map V.ty)) from I.hok p _ hp)
  have hits : its = Ts.map Value.type := Vals.types rv
  subst hits
  obtain ⟨oc, od, odt, osl⟩ := o
  dsimp only at hcl hd
  subst hcl hd
  have key : ∀ {x' t'} {Hc : Heap → Prop}, PySem.W.KitX X.K x' t' Hc → Hc s.heap → t' = .type T → x' ≠ .builtin "__main__.__loader__#opaque" → u = x' → wpAny (model X.prog X.w) X.A (call (.builtin "isinstance") [u, .ref p]) (EP X pins σ Q) X.xe s := by
    intro x' t' Hc Z hh et hne eu
    subst eu et
    exact PySem.W.kia_tup Z I.kIn hh hg e hne fun tk => ⟨.bl b, H, I.tok tk, rfl, q⟩
  have ty' : TyOf X.K H x (.type T) := ty
  cases ty' with
  | non => exact key PySem.W.kitx_none True.intro rfl (fun z => nomatch z) ru
  | bl y => exact key PySem.W.kitx_bool True.intro rfl (fun z => nomatch z) ru
  | int i => obtain ⟨t, q'⟩ := (show ∃ t, u = Value.int i t from ru); exact key PySem.W.kitx_int True.intro rfl (fun z => nomatch z) q'
  | str y => obtain ⟨t, q'⟩ := (show ∃ t, u = Value.str y t from ru); exact key PySem.W.kitx_str True.intro rfl (fun z => nomatch z) q'
  | flt y => obtain ⟨t, q'⟩ := (show ∃ t, u = Value.float y t from ru); exact key PySem.W.kitx_float True.intro rfl (fun z => nomatch z) q'
  | @lst a xs ea =>
    obtain ⟨_, _, n', _, h1⟩ := (show ObjOk X.prog X.w H s.heap a (.lst xs) from I.hok a _ ea)
    exact key PySem.W.kitx_list ⟨_, h1, rfl⟩ rfl (fun z => nomatch z) ru
  | @frz a ob xs ea =>
    obtain ⟨_, _, _, n', _, h1⟩ := (show ObjOk X.prog X.w H s.heap a (.frz ob (.lst xs)) from I.hok a _ ea)
    exact key PySem.W.kitx_list ⟨_, h1, rfl⟩ rfl (fun z => nomatch z) ru
  | @tup a xs ea =>
    obtain ⟨_, _, _, p'⟩ := (show ObjOk X.prog X.w H s.heap a (.tup xs) from I.hok a _ ea)
    obtain ⟨o, h1, h2, _⟩ := p'
    exact key PySem.W.kitx_tuple ⟨o, h1, h2⟩ rfl (fun z => nomatch z) ru
  | @dK a kvs ea =>
    obtain ⟨_, _, vs, _, p'⟩ := (show ObjOk X.prog X.w H s.heap a (.dK kvs) from I.hok a _ ea)
    obtain ⟨o, es, ep, h1, h2, _⟩ := p'
    exact key PySem.W.kitx_dict ⟨o, h1, h2.1⟩ rfl (fun z => nomatch z) ru
  | @dT a kvs ea =>
    obtain ⟨_, _, xs, _, o, es, ep, h1, h2, _⟩ := (show ObjOk X.prog X.w H s.heap a (.dT kvs) from I.hok a _ ea)
    exact key PySem.W.kitx_dict ⟨o, h1, h2.1⟩ rfl (fun z => nomatch z) ru

/-! ## all, any of a list of truths -/
theorem Vals.bools : ∀ {bs : List Bool} {its : List Value}, Vals (bs.map V.bl) its → its = bs.map Value.bool
  | [], _, h => by cases h; rfl
  | b :: bs, its, h => by
    cases h with
    | cons r1 r2 => rw [show _ = Value.bool b from r1, Vals.bools r2]; rfl
theorem all_range (bs : List Bool) : (List.range bs.length).all (fun i => bs.getD i false) = bs.all id := by
  rw [Bool.eq_iff_iff]
  simp only [List.all_eq_true, List.mem_range, id]
  constructor
  · intro h b hb
    obtain ⟨i, hi, rfl⟩ := List.mem_iff_getElem.mp hb
    have := h i hi
    rw [List.getD_eq_getElem?_getD, List.getElem?_eq_getElem hi] at this
    exact this
  · intro h i hi
    rw [List.getD_eq_getElem?_getD, List.getElem?_eq_getElem hi]
    exact h _ (List.getElem_mem hi)
theorem any_range (bs : List Bool) : (List.range bs.length).any (fun i => bs.getD i false) = bs.any id := by
  rw [Bool.eq_iff_iff]
  simp only [List.any_eq_true, List.mem_range, id]
  constructor
  · rintro ⟨i, hi, h⟩
    rw [List.getD_eq_getElem?_getD, List.getElem?_eq_getElem hi] at h
    exact ⟨_, List.getElem_mem hi, h⟩
  · rintro ⟨b, hb, h⟩
    obtain ⟨i, hi, rfl⟩ := List.mem_iff_getElem.mp hb
    exact ⟨i, hi, by rw [List.getD_eq_getElem?_getD, List.getElem?_eq_getElem hi]; exact h⟩
theorem truth_bools {prog : Program} {w : World} {A : Around} {bs : List Bool} : TruthOf prog w A (fun i v => (bs.map Value.bool).toArray[i]? = some v) (fun i => bs.getD i false) := by
  intro i v s Q E hP hQ
  rw [List.getElem?_toArray, List.getElem?_map] at hP
  cases e : bs[i]? with
  | none => rw [e] at hP; cases hP
  | some b =>
    rw [e] at hP
    cases hP
    have hb : bs.getD i false = b := by rw [List.getD_eq_getElem?_getD, e]; rfl
    have hQ' : Q (bs.getD i false) s := hQ
    rw [hb] at hQ'
    exact wpAny_truthy_bool hQ'
theorem call_allL (hc : X.calm = true) : CallR X (.builtin "all") (fun xs H Q => ∃ (p : Addr) (bs : List Bool), xs = [.ref p] ∧ H p = some (.lst (bs.map V.bl)) ∧ Q (.bl (bs.all id)) H) := by
  intro pins s σ H xs us Q I r h
  obtain ⟨p, bs, rfl, hp, q⟩ := h
  obtain ⟨u, rfl, ru⟩ := vals1 r
  cases (show u = Value.ref p from ru)
  obtain ⟨its, rv, pl, hz⟩ := I.list (SqL.of hp)
  have hits := Vals.bools rv
  subst hits
  refine call_all_walk (wpAny_pyIter_list pl.isList ?_)
  have hlt : p < s.heap.objs.size := pl.lt
  refine ⟨_, _, _, _, _, _, (fun i => bs.getD i false), rfl, Walks.list (A := X.A.in1) (I.ok.hd hc) s.heap.objs.size p (Nat.ne_of_lt hlt) (bs.map Value.bool).toArray, ⟨⟨_, Heap.get?_push_size _ rfl, rfl, rfl⟩, pl.isList.at fun o e => Heap.get?_push_of_some _ e⟩, truth_bools, fun h' tk hk => ?_⟩
  have e1 : ((bs.map Value.bool).toArray).size = bs.length := by simp
  rw [e1, all_range]
  refine ⟨.bl _, H, I.kept (h' := h') (t' := tk) fun b o e => ?_, rfl, q⟩
  exact hk b o (fun z => by rw [List.mem_singleton] at z; exact absurd (Heap.lt_size e) (by rw [z]; exact Nat.lt_irrefl _)) (Heap.get?_push_of_some _ e)
theorem call_anyL (hc : X.calm = true) : CallR X (.builtin "any") (fun xs H Q => ∃ (p : Addr) (bs : List Bool), xs = [.ref p] ∧ H p = some (.lst (bs.map V.bl)) ∧ Q (.bl (bs.any id)) H) := by
  intro pins s σ H xs us Q I r h
  obtain ⟨p, bs, rfl, hp, q⟩ := h
  obtain ⟨u, rfl, ru⟩ := vals1 r
  cases (show u = Value.ref p from ru)
  obtain ⟨its, rv, pl, hz⟩ := I.list (SqL.of hp)
  have hits := Vals.bools rv
  subst hits
  refine call_any_walk (wpAny_pyIter_list pl.isList ?_)
  have hlt : p < s.heap.objs.size := pl.lt
  refine ⟨_, _, _, _, _, _, (fun i => bs.getD i false), rfl, Walks.list (A := X.A.in1) (I.ok.hd hc) s.heap.objs.size p (Nat.ne_of_lt hlt) (bs.map Value.bool).toArray, ⟨⟨_, Heap.get?_push_size _ rfl, rfl, rfl⟩, pl.isList.at fun o e => Heap.get?_push_of_some _ e⟩, truth_bools, fun h' tk hk => ?_⟩
  have e1 : ((bs.map Value.bool).toArray).size = bs.length := by simp
  rw [e1, any_range]
  refine ⟨.bl _, H, I.kept (h' := h') (t' := tk) fun b o e => ?_, rfl, q⟩
  exact hk b o (fun z => by rw [List.mem_singleton] at z; exact absurd (Heap.lt_size e) (by rw [z]; exact Nat.lt_irrefl _)) (Heap.get?_push_of_some _ e)

/-! ## numbers of any size below a wide bound -/
def wideN : Nat := 2 ^ 8000
def Wide (i : Int) : Prop := i.natAbs < wideN
def CDivW (_ j : Int) : Prop := j ≠ 0 ∧ Wide j
theorem wide_log {j : Int} (h : Wide j) : j.natAbs.log2 < 9000 := by
  by_cases h0 : j.natAbs = 0
  · rw [h0]; decide +kernel
  · exact Nat.lt_trans ((Nat.log2_lt h0).mpr h) (by decide)
theorem op_fdivW : OpR X (binaryOp .FloorDiv) (rI CDivW fun i j => .int (i.fdiv j)) := opI fun _ _ _ _ _ _ _ hc q => floordiv_int hc.1 q (.inl (PyProof.noPylong_of_log2 (wide_log hc.2)))
def CMulW (i j : Int) : Prop := Wide i ∧ Wide j
theorem wide_bits {j : Int} (h : Wide j) : Builtin.Int.intBits j ≤ 2 ^ 20 := by
  unfold Builtin.Int.intBits
  by_cases h0 : (j == 0) = true
  · rw [if_pos h0]; exact Nat.zero_le _
  · rw [if_neg h0]
    have := wide_log h
    omega
theorem op_mulW : OpR X (binaryOp .Mult) (rI CMulW fun i j => .int (i * j)) := opI fun _ _ _ _ _ _ _ hc q => mul_int q (IntMulOk.of_bits (wide_bits hc.1) (wide_bits hc.2))
end
end L2

end

section
set_option Elab.async false
set_option linter.all false
set_option maxRecDepth 100000
set_option maxHeartbeats 4000000
namespace L2
open PySem PySem.Spec PyProof.Rows

/-! ## a def of the text, by its promise alone -/
structure Callee (P : Program) (w : World) (K : PySem.W.Frag) (mg : Str → Option Value) (base : Heap) (k : Nat) (x : Str) (ps : List Str) (sp : Sp) : Prop where
  ex : ∃ f fd, FnOk P w K mg base CX0 k f fd ps sp ∧ mg x = some (.ref f) ∧ PySem.W.keepIn K (.ref f) = true ∧ Binds K fd ps []
structure Def (K : PySem.W.Frag) (mg : Str → Option Value) (x : Str) (st : Stmt) : Prop where
  ex : ∃ f fd, Fun K x x st f fd ∧ mg x = some (.ref f)
section
variable {P : Program} {w : World} {K : PySem.W.Frag} {mg : Str → Option Value} {base : Heap} {X : Cx}
theorem Def.ok {x : Str} {st : Stmt} {N ps : List Str} {k : Nat} {sp : Sp} (D : Def K mg x st) (S : FnScope N ps (defScope st))
    (hb : ∀ (kV doc pm : Value) (an : Option Addr) (cdv ct : Value) (us : List Value), us.length = ps.length → bindArgs (PySem.W.fnOf x x (defArgs st) (defBody st) (defScope st) .none kV doc pm an cdv ct) ⟨us, []⟩ = pure (ps.zip us))
    (len : ∀ vs H Q E, sp vs H Q E → vs.length = ps.length)
    (hbody : ∀ (f : Addr) (cdv : Value) (A : Around) (outer : List Env) (s : Shared) (H : Hp) (vs : List V) (Q : VK) (E : XK), Room k (A.deeper (envOfC x (defScope st) s.heap.objs.size f cdv)) → sp vs H Q E →
      ∃ t, PSs (cxOf CX0 P w K mg base N x (defScope st) f cdv A outer s H E).nox (defBody st) t ∧ t { nx := fun _ H' => Q .non H', rt := Q } (start N vs) H) : Callee P w K mg base (k + 1) x ps sp := by
  obtain ⟨f, fd, F, m⟩ := D.ex
  exact ⟨f, fd, F.ok S len fun cdv A outer s H vs Q E hr h => hbody f cdv A outer s H vs Q E hr h, m, F.kp, F.binds hb⟩
theorem Callee.mono {j k : Nat} {x : Str} {ps : List Str} {sp : Sp} (C : Callee P w K mg base j x ps sp) (h : j ≤ k) : Callee P w K mg base k x ps sp := by
  obtain ⟨f, fd, F, r⟩ := C.ex
  exact ⟨f, fd, F.mono h, r⟩
theorem Callee.imp {k : Nat} {x : Str} {ps : List Str} {sp sp' : Sp} (C : Callee P w K mg base k x ps sp) (h : ∀ vs H Q E, sp' vs H Q E → sp vs H Q E) : Callee P w K mg base k x ps sp' := by
  obtain ⟨f, fd, F, r⟩ := C.ex
  exact ⟨f, fd, F.imp h, r⟩
theorem def_mk {x : Str} {st : Stmt} {h : Heap} {f : Addr} {oc : Value} {od an : Option Addr} {osl : Array (Option Value)} {kV doc pm cdv ct : Value} (X : K.In h) (G : h.Ns mainGlobals mg) (a : PySem.W.nsIn K mainGlobals x = some (some (.ref f)))
    (l : K.lookup f = some ⟨oc, od, .func (PySem.W.fnOf x x (defArgs st) (defBody st) (defScope st) .none kV doc pm an cdv ct), osl⟩) (c : PySem.W.codeIn K cdv x = true) (k : PySem.W.keepIn K (.ref f) = true) : Def K mg x st :=
  ⟨f, _, fun_mk l c k, PySem.W.mg_of X G a⟩
/-- f(e, ..) -/
theorem pe_cal {k : Nat} {x : Str} {ps : List Str} {sp : Sp} {p pos : Pos} {e : Expr} {es : List Expr} {t : TA} (C : Callee X.prog X.w X.K X.mg X.base k x ps sp) (hr : Room k X.A) (ha : PA X (e :: es) t) (hg : Gl X x := by rfl)
    (hdb : (x == ("__debug__" : Str)) = false := by decide) (he : starEach (e :: es) X.env = (false, eval e X.env) :: starEach es X.env := by rfl) (hpl : (backTo pos (starEach es X.env)).any (·.1) = false := by rfl) :
    PE X (.Call (.Name x p) (e :: es) [] pos) (tCall sp [] E0 t) := by
  obtain ⟨f, fd, F, m, kp, b⟩ := C.ex
  exact pe_call F hr hg m kp b .nil pass0 ha hdb he hpl
theorem pe_cal0 {k : Nat} {x : Str} {ps : List Str} {sp : Sp} {p pos : Pos} (C : Callee X.prog X.w X.K X.mg X.base k x ps sp) (hr : Room k X.A) (hg : Gl X x := by rfl)
    (hdb : (x == ("__debug__" : Str)) = false := by decide) : PE X (.Call (.Name x p) [] [] pos) (tCall sp [] E0 tNil) := by
  obtain ⟨f, fd, F, m, kp, b⟩ := C.ex
  exact pe_call0 F hr hg m kp b .nil pass0 hdb
theorem Room.units1 {k : Nat} {A : Around} (r : Room k A) : A.in1.units + 64 < cLine := by have := r.un; show A.units + 1 + 64 < _; omega

/-! ## the built-ins by their names -/
/-- the built-in names that the text does not bind -/
def Free (mg : Str → Option Value) (xs : List Str) : Prop := ∀ x ∈ xs, mg x = none
theorem Free.of {xs : List Str} (h : Free mg xs) (x : Str) (hx : x ∈ xs := by decide +kernel) : mg x = none := h x hx
theorem free_nil : Free mg [] := fun _ h => absurd h (by simp)
theorem free_cons {x : Str} {xs : List Str} (h : mg x = none) (hr : Free mg xs) : Free mg (x :: xs) := fun y hy => (List.mem_cons.mp hy).elim (fun e => e ▸ h) (hr y)

/-- a * b: one factor short, or both wide -/
def CMulA (i j : Int) : Prop := CMul i j ∨ CMulW i j
theorem CMulA.ok {i j : Int} (h : CMulA i j) : IntMulOk i j := by
  rcases h with h | h
  · exact h.ok
  · exact IntMulOk.of_bits (wide_bits h.1) (wide_bits h.2)
theorem op_mulA : OpR X (binaryOp .Mult) (rI CMulA fun i j => .int (i * j)) := opI fun _ _ _ _ _ _ _ hc q => mul_int q hc.ok
def CDivA (_ j : Int) : Prop := 0 < j ∧ Wide j
theorem op_fdivA : OpR X (binaryOp .FloorDiv) (rI CDivA fun i j => .int (i / j)) := opI fun i j _ _ _ _ _ hc q => by
  refine floordiv_int (Int.ne_of_gt hc.1) ?_ (.inl (PyProof.noPylong_of_log2 (wide_log hc.2)))
  rw [Int.fdiv_eq_ediv_of_nonneg _ (Int.le_of_lt hc.1)]
  exact q
theorem wide_of {i : Int} (h : -(2 ^ 200) < i) (h' : i < 2 ^ 200) : Wide i := by
  show i.natAbs < 2 ^ 8000
  have h1 : i.natAbs < 2 ^ 200 := by omega
  exact Nat.lt_of_lt_of_le h1 (Nat.pow_le_pow_right (by decide) (by decide))
end
end L2
namespace L2
open PySem PySem.Spec PyProof.Rows
/-- the look at a comprehension's names -/
def chkLc (sc0 : Scope) (N N' : List Str) (cap : List (Option Nat)) (scope : Scope) : Bool :=
  scope.names.all (fun y => y.2 != .cell) && (scope.kind == .function) && scope.names.all (fun y => y.2 != .local || scope.names.lookup y.1 == some .local) &&
  scope.names.all (fun y => y.2 != .free || (sc0.names.lookup y.1 == some .cell || sc0.names.lookup y.1 == some .free)) && (cap.length == N'.length) &&
  (List.range cap.length).all fun i => match cap[i]? with
    | some (some j) => (match N'[i]?, N[j]? with
      | some x, some y => x == y && scope.names.lookup x == some .free
      | _, _ => false)
    | _ => true
theorem lcsc_of {X : Cx} {sc0 scope : Scope} {N N' : List Str} {cap : List (Option Nat)} (h1 : X.env.scope = sc0) (h2 : X.N = N) (h : chkLc sc0 N N' cap scope = true) : LcSc X N' cap scope := by
  unfold chkLc at h
  simp only [Bool.and_eq_true, List.all_eq_true, beq_iff_eq, bne_iff_ne, ne_eq, Bool.or_eq_true, List.mem_range] at h
  obtain ⟨⟨⟨⟨⟨a, b⟩, c⟩, d⟩, e⟩, f⟩ := h
  refine ⟨a, b, fun y hy hk => ?_, fun y hy hk => ?_, e, fun i j hij => ?_⟩
  · rcases c y hy with z | z
    · exact absurd hk z
    · exact z
  · show X.env.scope.names.lookup y.1 = _ ∨ X.env.scope.names.lookup y.1 = _
    rw [h1]
    rcases d y hy with z | z
    · exact absurd hk z
    · exact z
  · have hi : i < cap.length := (List.getElem?_eq_some_iff.mp hij).1
    have g := f i hi
    rw [hij] at g
    dsimp only at g
    rw [h2]
    split at g
    · rename_i x y ex ey
      rw [Bool.and_eq_true, beq_iff_eq, beq_iff_eq] at g
      exact ⟨x, ex, by rw [ey, g.1], g.2⟩
    · cases g
end L2

end

section
set_option Elab.async false
set_option linter.all false
set_option maxRecDepth 100000
set_option maxHeartbeats 4000000
namespace L2
open PySem PySem.Spec PyProof.Rows
/-! ## isinstance of data -/
def tyName : PyData → String
  | .none => "NoneType"
  | .bool _ => "bool"
  | .int _ => "int"
  | .str _ => "str"
  | .list _ => "list"
  | .tuple _ => "tuple"
  | .dict _ => "dict"
/-- the types that are asked for -/
def asked : List String := ["int", "bool", "str", "list", "tuple", "dict"]
def isT (T S : String) : Bool := T == S || (T == "int" && S == "bool")
def isiD (T : String) (d : PyData) : Bool := isT T (tyName d)
def kitB (S T : String) : Option Bool := if (Value.type S == Value.type T) = true then some true else if PySem.W.kitMeta T = true then (PySem.fastBuiltinMro S).map (·.contains (Value.type T)) else none
theorem kitB_all : (["NoneType", "bool", "int", "str", "list", "tuple", "dict"].all fun S => asked.all fun T => kitB S T == some (isT T S)) = true := by decide +kernel
theorem kit_is {K : PySem.W.Frag} {T : String} {d : PyData} (h : T ∈ asked) : PySem.W.kitOne K (.type (tyName d)) (.type T) = some (isiD T d) := by
  have e : PySem.W.kitOne K (.type (tyName d)) (.type T) = kitB (tyName d) T := rfl
  rw [e]
  have hk := kitB_all
  rw [List.all_eq_true] at hk
  have h1 := hk (tyName d) (by cases d <;> simp [tyName])
  rw [List.all_eq_true] at h1
  exact eq_of_beq (h1 T h)
theorem kit_any {K : PySem.W.Frag} {d : PyData} : ∀ {Ts : List String}, (∀ T ∈ Ts, T ∈ asked) → PySem.W.kitAny K (.type (tyName d)) (Ts.map Value.type) = some (Ts.any fun T => isiD T d)
  | [], _ => rfl
  | T :: Ts, h => by
    rw [List.map_cons]
    unfold PySem.W.kitAny
    rw [kit_is (h T List.mem_cons_self), List.any_cons]
    cases isiD T d with
    | true => rfl
    | false => rw [Bool.false_or]; exact kit_any fun U hU => h U (List.mem_cons_of_mem _ hU)
section
variable {X : Cx}
theorem kit_rep {pins : List (Addr × Obj)} {σ : St} {H : Hp} {s : Shared} (I : Inv X pins σ H s) : ∀ {d : PyData} {v : V} {u : Value}, Rep X.K H d v → RelV v u → ∃ Hc : Heap → Prop, PySem.W.KitX X.K u (.type (tyName d)) Hc ∧ Hc s.heap ∧ u ≠ .builtin "__main__.__loader__#opaque"
  | .none, v, u, h, r => by
    rw [show v = .non from h] at r
    cases (show u = Value.none from r)
    exact ⟨_, PySem.W.kitx_none, True.intro, fun z => nomatch z⟩
  | .bool b, v, u, h, r => by
    rw [show v = .bl b from h] at r
    cases (show u = Value.bool b from r)
    exact ⟨_, PySem.W.kitx_bool, True.intro, fun z => nomatch z⟩
  | .int i, v, u, h, r => by
    rw [show v = .int i from h] at r
    obtain ⟨t, q⟩ := (show ∃ t, u = Value.int i t from r)
    cases q
    exact ⟨_, PySem.W.kitx_int, True.intro, fun z => nomatch z⟩
  | .str x, v, u, h, r => by
    rw [show v = .str x from h] at r
    obtain ⟨t, q⟩ := (show ∃ t, u = Value.str x t from r)
    cases q
    exact ⟨_, PySem.W.kitx_str, True.intro, fun z => nomatch z⟩
  | .list xs, v, u, h, r => by
    obtain ⟨a, vs, rfl, h2, _⟩ := h
    cases (show u = Value.ref a from r)
    obtain ⟨its, hv, ⟨o, n, hg, hc, _, hd⟩, _⟩ := I.list h2
    exact ⟨_, PySem.W.kitx_list, ⟨o, hg, hc⟩, fun z => nomatch z⟩
  | .tuple xs, v, u, h, r => by
    obtain ⟨a, vs, rfl, h2, _⟩ := h
    cases (show u = Value.ref a from r)
    obtain ⟨its, hv, ⟨o, hg, hc, n, hd⟩, _⟩ := I.tuple h2
    exact ⟨_, PySem.W.kitx_tuple, ⟨o, hg, hc⟩, fun z => nomatch z⟩
  | .dict kvs, v, u, h, r => by
    obtain ⟨a, ks, rfl, h2, _⟩ := h
    cases (show u = Value.ref a from r)
    obtain ⟨_, _, vs, _, o, es, ep, h1, hx, _⟩ := (show ObjOk X.prog X.w H s.heap a (.dK ks) from I.hok a _ h2)
    exact ⟨_, PySem.W.kitx_dict, ⟨o, h1, hx.1⟩, fun z => nomatch z⟩
def rIsi (K : PySem.W.Frag) : List V → Hp → VK → Prop := fun xs H Q => ∃ x T d, xs = [x, .ty T] ∧ T ∈ asked ∧ Rep K H d x ∧ Q (.bl (isiD T d)) H
theorem call_isiD : CallR X (.builtin "isinstance") (rIsi X.K) := by
  intro pins s σ H xs us Q I r h
  obtain ⟨x, T, d, rfl, hT, hd, q⟩ := h
  obtain ⟨u, u', rfl, ru, ru'⟩ := vals2 r
  cases (show u' = Value.type T from ru')
  obtain ⟨Hc, Z, hh, hne⟩ := kit_rep I hd ru
  exact PySem.W.kia_one Z I.kIn hh (kit_is hT) hne fun tk => ⟨.bl _, H, I.tok tk, rfl, q⟩
def rIsi2 (K : PySem.W.Frag) : List V → Hp → VK → Prop := fun xs H Q => ∃ (x : V) (p : Addr) (Ts : List String) (d : PyData), xs = [x, .ref p] ∧ H p = some (.tup (Ts.map V.ty)) ∧ (∀ T ∈ Ts, T ∈ asked) ∧ Rep K H d x ∧ Q (.bl (Ts.any fun T => isiD T d)) H
theorem call_isi2D : CallR X (.builtin "isinstance") (rIsi2 X.K) := by
  intro pins s σ H xs us Q I r h
  obtain ⟨x, p, Ts, d, rfl, hp, hT, hd, q⟩ := h
  obtain ⟨u, u', rfl, ru, ru'⟩ := vals2 r
  cases (show u' = Value.ref p from ru')
  obtain ⟨_, its, rv, o, hg, hcl, n, hd'⟩ := (show ObjOk X.prog X.w H s.heap p (.tup (Ts.map V.ty)) from I.hok p _ hp)
  have hits : its = Ts.map Value.type := Vals.types rv
  subst hits
  obtain ⟨oc, od, odt, osl⟩ := o
  dsimp only at hcl hd'
  subst hcl hd'
  obtain ⟨Hc, Z, hh, hne⟩ := kit_rep I hd ru
  exact PySem.W.kia_tup Z I.kIn hh hg (kit_any hT) hne fun tk => ⟨.bl _, H, I.tok tk, rfl, q⟩
end
/-! ## heaps that grow -/
theorem Same.upd {H : Hp} {p : Addr} {o : HO} (h : H p = none) : Same H (upd H p o) := fun b u e => by rw [upd_ne (ne_of_none e h)]; exact e
theorem Same.get {H H' : Hp} (e : Same H H') {a : Addr} {o : HO} (h : H a = some o) : H' a = some o := e a o h
/-- all but one stands as it stood -/
def But (p : Addr) (H H' : Hp) : Prop := ∀ b o, b ≠ p → H b = some o → H' b = some o
theorem But.refl (p : Addr) (H : Hp) : But p H H := fun _ _ _ h => h
theorem But.trans {p : Addr} {H H1 H2 : Hp} (a : But p H H1) (b : But p H1 H2) : But p H H2 := fun c o n h => b c o n (a c o n h)
theorem But.of {p : Addr} {H H' : Hp} (e : Same H H') : But p H H' := fun b o _ h => e b o h
theorem But.set {p : Addr} {H : Hp} {o : HO} : But p H (upd H p o) := fun b u n h => by rw [upd_ne n]; exact h
theorem But.free {p : Addr} {H H' : Hp} (e : But p H H') {l : Addr} (n : l ≠ p) (h : H' l = none) : H l = none := by
  cases q : H l with
  | none => rfl
  | some o => rw [e l o n q] at h; cases h

/-! ## items and lengths of data -/
def itemsD : PyData → Option (List PyData)
  | .list xs => some xs
  | .tuple xs => some xs
  | _ => none
theorem rep_seq {K : PySem.W.Frag} {H : Hp} : ∀ {d : PyData} {v : V} {ds : List PyData}, Rep K H d v → itemsD d = some ds → ∃ a vs, v = .ref a ∧ (SqL K H a vs ∨ SqT K H a vs) ∧ RepAll K H ds vs
  | .list xs, v, ds, h, e => by
    obtain ⟨a, vs, h1, h2, h3⟩ := h
    cases e
    exact ⟨a, vs, h1, .inl h2, h3⟩
  | .tuple xs, v, ds, h, e => by
    obtain ⟨a, vs, h1, h2, h3⟩ := h
    cases e
    exact ⟨a, vs, h1, .inr h2, h3⟩
  | .none, _, _, _, e => by cases e
  | .bool _, _, _, _, e => by cases e
  | .int _, _, _, _, e => by cases e
  | .str _, _, _, _, e => by cases e
  | .dict _, _, _, _, e => by cases e

/-! ## what is walked: a list or a tuple -/
section
variable {X : Cx} {tg : Expr}
def iSeq (K : PySem.W.Frag) (tl : TE) : TI := fun σ H R => tl σ H fun x H1 => ∃ a, x = .ref a ∧ ((∃ xs, SqL K H1 a xs ∧ R (Itl K a) H1) ∨ (∃ xs, SqT K H1 a xs ∧ R (Itt K a) H1))
theorem pi_seq {l : Expr} {tl : TE} (hl : PE X l tl) : PI X tg l (iSeq X.K tl) := by
  intro pins s σ H R I h
  refine thn (hl pins s σ H _ I h) fun v s1 hz => ?_
  obtain ⟨x, H1, I1, r1, a, e, q1⟩ := hz
  subst e
  cases r1
  have fp : ∀ b ∈ [s1.heap.objs.size], FpOk X pins H1 b := fun b hb => by
    have e : b = s1.heap.objs.size := List.mem_singleton.mp hb
    subst e
    exact I1.fpOk (Nat.le_refl _) (I1.hok.fresh (Nat.le_refl _))
  rcases q1 with ⟨xs, hq, q⟩ | ⟨xs, hq, q⟩
  · obtain ⟨its, rv, p, hz⟩ := I1.list hq
    refine wpAny_pyIter_list p.isList ?_
    exact ⟨s1.heap.objs.size, [s1.heap.objs.size], _, _, H1, rfl, I1.kept (t' := s1.toks) fun b o e => Heap.get?_push_of_some _ e, turn_list a _, ⟨_, Heap.get?_push_size _ rfl, rfl, rfl⟩, fp, q⟩
  · obtain ⟨its, rv, p, hz⟩ := I1.tuple hq
    refine wpAny_pyIter_tuple (show s1.heap.IsTuple a its.toArray from p) ?_
    exact ⟨s1.heap.objs.size, [s1.heap.objs.size], _, _, H1, rfl, I1.kept (t' := s1.toks) fun b o e => Heap.get?_push_of_some _ e, turn_tuple a _, ⟨_, Heap.get?_push_size _ rfl, rfl, rfl⟩, fp, q⟩
end
/-- an iterator that gives the items xs, as long as Ok holds -/
structure Gives (J : It) (xs : List V) (Ok : Hp → Prop) : Prop where
  go : ∀ i H x, Ok H → xs[i]? = some x → J.go i H
  yld : ∀ i H x y H', Ok H → xs[i]? = some x → J.yld i H y H' → H' = H ∧ y = x
  stop : ∀ H, Ok H → J.stop xs.length H
theorem gives_list {K : PySem.W.Frag} {a : Addr} {xs : List V} : Gives (Itl K a) xs (fun H => SqL K H a xs) :=
  ⟨fun i H x h e => ⟨xs, x, h, e⟩, fun i H x y H' h e hy => ⟨hy.1, by have := hy.2 xs h; rw [e] at this; exact (Option.some.inj this).symm⟩, fun H h => ⟨xs, h, Nat.le_refl _⟩⟩
theorem gives_tup {K : PySem.W.Frag} {a : Addr} {xs : List V} : Gives (Itt K a) xs (fun H => SqT K H a xs) :=
  ⟨fun i H x h e => ⟨xs, x, h, e⟩, fun i H x y H' h e hy => ⟨hy.1, by have := hy.2 xs h; rw [e] at this; exact (Option.some.inj this).symm⟩, fun H h => ⟨xs, h, Nat.le_refl _⟩⟩
theorem gives_range {lo : Int} {n : Nat} : Gives (Itr lo n) ((List.range n).map fun i => V.int (lo + (i : Nat))) (fun _ => True) := by
  have key : ∀ (i : Nat) (x : V), ((List.range n).map fun i => V.int (lo + (i : Nat)))[i]? = some x → i < n ∧ x = .int (lo + i) := fun i x e => by
    rw [List.getElem?_map] at e
    by_cases hi : i < n
    · rw [List.getElem?_range hi] at e
      exact ⟨hi, (Option.some.inj e).symm⟩
    · rw [List.getElem?_eq_none_iff.mpr (by simpa using hi)] at e
      cases e
  refine ⟨fun i H x _ e => (key i x e).1, fun i H x y H' _ e hy => ⟨hy.1, by rw [hy.2, (key i x e).2]⟩, fun H _ => ?_⟩
  show n ≤ ((List.range n).map fun i => V.int (lo + (i : Nat))).length
  simp
/-- what a comprehension wants of its iterator -/
def LcGo (cap : List (Option Nat)) (g : TG) (tc : TT) (te : TE) (σ : St) (Q : VK) (J : It) (H1 : Hp) : Prop := ∃ W : Nat → Nat → List V → St → Hp → Prop, (∃ m, W 0 m [] (capS cap σ) H1) ∧ ∀ i m acc σ' H', W i m acc σ' H' →
  (J.stop i H' ∧ ∀ p, H' p = none → Q (.ref p) (upd H' p (.lst acc))) ∨
  (J.go i H' ∧ acc.length < sizeLine ∧ ∃ N : List V → St → Hp → Prop, (∀ acc' σ2 H2, N acc' σ2 H2 → ∃ m', m' < m ∧ W (i + 1) m' acc' σ2 H2) ∧ ∀ x H2, J.yld i H' x H2 → g x σ' H2 fun σ2 H3 => tc σ2 H3 fun b H4 => (b = true ∧ te σ2 H4 fun v H5 => N (acc ++ [v]) σ2 H5) ∨ (b = false ∧ N acc σ2 H4))
theorem lc_by {cap : List (Option Nat)} {g : TG} {tc : TT} {te : TE} {σ : St} {Q : VK} {J : It} {H : Hp} {xs : List V} {Ok : Hp → Prop} (G : Gives J xs Ok) (Pv : Nat → List V → St → Hp → Prop) (h0 : Pv 0 [] (capS cap σ) H)
    (ok : ∀ i acc σ H, Pv i acc σ H → Ok H) (small : xs.length ≤ sizeLine) (few : ∀ i acc σ H, Pv i acc σ H → acc.length ≤ i)
    (step : ∀ i x acc σ H, xs[i]? = some x → Pv i acc σ H → g x σ H fun σ2 H3 => tc σ2 H3 fun b H4 => (b = true ∧ te σ2 H4 fun v H5 => Pv (i + 1) (acc ++ [v]) σ2 H5) ∨ (b = false ∧ Pv (i + 1) acc σ2 H4))
    (fin : ∀ acc σ H, Pv xs.length acc σ H → ∀ p, H p = none → Q (.ref p) (upd H p (.lst acc))) : LcGo cap g tc te σ Q J H := by
  refine ⟨fun i m acc σ H => m = xs.length - i ∧ i ≤ xs.length ∧ Pv i acc σ H, ⟨xs.length, by simp, Nat.zero_le _, h0⟩, ?_⟩
  rintro i m acc σ' H' ⟨rfl, hi, p⟩
  by_cases hlt : i < xs.length
  · have hx : xs[i]? = some xs[i] := List.getElem?_eq_getElem hlt
    refine .inr ⟨G.go i H' _ (ok _ _ _ _ p) hx, Nat.lt_of_le_of_lt (few _ _ _ _ p) (Nat.lt_of_lt_of_le hlt small), Pv (i + 1), fun acc' σ2 H2 q => ⟨_, by omega, rfl, hlt, q⟩, fun y H2 hy => ?_⟩
    obtain ⟨rfl, rfl⟩ := G.yld i H' _ y H2 (ok _ _ _ _ p) hx hy
    exact step i _ acc σ' _ hx p
  · have e : i = xs.length := by omega
    subst e
    exact .inl ⟨G.stop H' (ok _ _ _ _ p), fin acc σ' H' p⟩
end L2

end

section
set_option Elab.async false
set_option linter.all false
set_option maxRecDepth 100000
set_option maxHeartbeats 4000000
namespace L2
open PySem PySem.Spec PyProof.Rows
/-! # MIRRORS: a def's result as a total function over data and cells -/
/-- data (never changed), or a cell by its number -/
inductive CD where
  | d (x : PyData)
  | c (n : Nat)
/-- a cell: a list, a dict that may be changed; dead: nothing is known of it any more -/
inductive Cell where
  | lst (xs : List CD)
  | dk (kvs : List (Key × CD))
  | dt (kvs : List (List Key × CD))
  | dead
/-- the data's own part of the heap, the cells' addresses, their number -/
structure Wd where
  F : Hp
  α : Nat → Addr
  n : Nat
structure Wd.Ext (W W' : Wd) : Prop where
  ff : Same W.F W'.F
  ln : W.n ≤ W'.n
  al : ∀ i, i < W.n → W'.α i = W.α i
theorem Wd.Ext.refl (W : Wd) : W.Ext W := ⟨Same.refl _, Nat.le_refl _, fun _ _ => rfl⟩
theorem Wd.Ext.trans {W W1 W2 : Wd} (a : W.Ext W1) (b : W1.Ext W2) : W.Ext W2 := ⟨a.ff.trans b.ff, Nat.le_trans a.ln b.ln, fun i h => (b.al i (Nat.lt_of_lt_of_le h a.ln)).trans (a.al i h)⟩
def RepV (K : PySem.W.Frag) (W : Wd) : CD → V → Prop
  | .d x, v => Rep K W.F x v
  | .c i, v => i < W.n ∧ v = .ref (W.α i)
abbrev RepVs (K : PySem.W.Frag) (W : Wd) : List CD → List V → Prop := Paired (RepV K W)
def RepO (K : PySem.W.Frag) (W : Wd) : Option CD → Option V → Prop
  | none, none => True
  | some x, some v => RepV K W x v
  | _, _ => False
abbrev RepS (K : PySem.W.Frag) (W : Wd) : List (Option CD) → St → Prop := Paired (RepO K W)
def RepC (K : PySem.W.Frag) (W : Wd) : Cell → HO → Prop
  | .lst xs, .lst vs => RepVs K W xs vs
  | .dk kvs, .dK us => Paired (fun p q => p.1 = q.1 ∧ RepV K W p.2 q.2) kvs us
  | .dt kvs, .dT us => Paired (fun p q => p.1 = q.1 ∧ RepV K W p.2 q.2) kvs us
  | _, _ => False
structure Good (K : PySem.W.Frag) (W : Wd) (M : List Cell) (H : Hp) : Prop where
  fh : Same W.F H
  n : W.n = M.length
  cs : ∀ i c, M[i]? = some c → c ≠ .dead → W.F (W.α i) = none ∧ ∃ o, H (W.α i) = some o ∧ RepC K W c o
  inj : ∀ i j c c', M[i]? = some c → M[j]? = some c' → c ≠ .dead → c' ≠ .dead → W.α i = W.α j → i = j
section
variable {K : PySem.W.Frag} {W W' : Wd} {M M' : List Cell} {H H' : Hp}
theorem RepV.up {x : CD} {v : V} (h : RepV K W x v) (e : W.Ext W') : RepV K W' x v := by
  cases x with
  | d x => exact Rep.same e.ff _ _ h
  | c i => exact ⟨Nat.lt_of_lt_of_le h.1 e.ln, by rw [e.al i h.1]; exact h.2⟩
theorem RepVs.up {xs : List CD} {vs : List V} (h : RepVs K W xs vs) (e : W.Ext W') : RepVs K W' xs vs := Paired.mapP h fun _ _ r => RepV.up r e
theorem RepS.up {γ : List (Option CD)} {σ : St} (h : RepS K W γ σ) (e : W.Ext W') : RepS K W' γ σ := Paired.mapP h fun a b r => by
  cases a <;> cases b
  · exact True.intro
  · exact False.elim r
  · exact False.elim r
  · exact RepV.up r e
theorem RepC.up {c : Cell} {o : HO} (h : RepC K W c o) (e : W.Ext W') : RepC K W' c o := by
  cases c <;> cases o <;> first | exact False.elim h | exact RepVs.up h e | exact Paired.mapP h fun _ _ r => ⟨r.1, RepV.up r.2 e⟩
/-- a new piece of data -/
theorem Good.lay (g : Good K W M H) {p : Addr} {o : HO} (hp : H p = none) : W.Ext { W with F := upd W.F p o } ∧ Good K { W with F := upd W.F p o } M (upd H p o) := by
  have fp : W.F p = none := g.fh.free hp
  have e : W.Ext { W with F := upd W.F p o } := ⟨Same.upd fp, Nat.le_refl _, fun _ _ => rfl⟩
  refine ⟨e, ?_, g.n, fun i c hi hc => ?_, g.inj⟩
  · intro b u hb
    have hb : upd W.F p o b = some u := hb
    by_cases q : b = p
    · subst q; rw [upd_same] at hb; rw [upd_same]; exact hb
    · rw [upd_ne q] at hb
      rw [upd_ne q]; exact g.fh b u hb
  · obtain ⟨h1, o', h2, h3⟩ := g.cs i c hi hc
    have ne : W.α i ≠ p := ne_of_none h2 hp
    exact ⟨by show upd W.F p o (W.α i) = none; rw [upd_ne ne]; exact h1, o', by rw [upd_ne ne]; exact h2, h3.up e⟩
/-- a new cell -/
def Wd.more (W : Wd) (p : Addr) : Wd := { W with α := fun i => if i = W.n then p else W.α i, n := W.n + 1 }
theorem Wd.ext_more (W : Wd) (p : Addr) : W.Ext (W.more p) := ⟨Same.refl _, Nat.le_succ _, fun i h => if_neg (Nat.ne_of_lt h)⟩
theorem Good.new (g : Good K W M H) {p : Addr} {c : Cell} {o : HO} (hp : H p = none) (r : RepC K W c o) : Good K (W.more p) (M ++ [c]) (upd H p o) := by
  have e := W.ext_more p
  have at_ : ∀ i c', (M ++ [c])[i]? = some c' → (i < M.length ∧ M[i]? = some c') ∨ (i = M.length ∧ c' = c) := fun i c' h => by
    by_cases q : i < M.length
    · rw [List.getElem?_append_left q] at h; exact .inl ⟨q, h⟩
    · rw [List.getElem?_append_right (Nat.le_of_not_lt q)] at h
      have h' : i - M.length = 0 := by
        cases k : i - M.length with
        | zero => rfl
        | succ m => rw [k] at h; simp at h
      rw [h'] at h
      refine .inr ⟨by omega, ?_⟩
      simpa using h.symm
  have al : ∀ i, i < M.length → (W.more p).α i = W.α i := fun i h => e.al i (by rw [g.n]; exact h)
  have an : (W.more p).α M.length = p := by show (if M.length = W.n then p else _) = p; rw [if_pos g.n.symm]
  have nep : ∀ i c', M[i]? = some c' → c' ≠ .dead → W.α i ≠ p := fun i c' h hc => by
    obtain ⟨_, o', h2, _⟩ := g.cs i c' h hc
    exact ne_of_none h2 hp
  refine ⟨?_, ?_, fun i c' hi hc => ?_, fun i j c1 c2 hi hj d1 d2 he => ?_⟩
  · intro b u hb
    have := g.fh b u hb
    rw [upd_ne (ne_of_none this hp)]; exact this
  · show W.n + 1 = _
    rw [g.n, List.length_append]; rfl
  · rcases at_ i c' hi with ⟨q, h⟩ | ⟨rfl, rfl⟩
    · obtain ⟨h1, o', h2, h3⟩ := g.cs i c' h hc
      rw [al i q]
      exact ⟨h1, o', by rw [upd_ne (nep i c' h hc)]; exact h2, h3.up e⟩
    · rw [an]
      exact ⟨g.fh.free hp, o, upd_same, r.up e⟩
  · rcases at_ i c1 hi with ⟨q, h⟩ | ⟨rfl, rfl⟩
    · rcases at_ j c2 hj with ⟨q', h'⟩ | ⟨rfl, rfl⟩
      · rw [al i q, al j q'] at he
        exact g.inj i j c1 c2 h h' d1 d2 he
      · rw [al i q, an] at he
        exact absurd he (nep i c1 h d1)
    · rcases at_ j c2 hj with ⟨q', h'⟩ | ⟨rfl, rfl⟩
      · rw [an, al j q'] at he
        exact absurd he.symm (nep j c2 h' d2)
      · rfl
/-- a cell is changed -/
theorem Good.set (g : Good K W M H) {i : Nat} {c c' : Cell} {o' : HO} (hi : M[i]? = some c) (hc : c ≠ .dead) (r : RepC K W c' o') : Good K W (M.set i c') (upd H (W.α i) o') := by
  obtain ⟨h1, o, h2, h3⟩ := g.cs i c hi hc
  have lt : i < M.length := (List.getElem?_eq_some_iff.mp hi).1
  have at_ : ∀ j d, (M.set i c')[j]? = some d → (j = i ∧ d = c') ∨ (j ≠ i ∧ M[j]? = some d) := fun j d h => by
    by_cases q : i = j
    · subst q; rw [List.getElem?_set_self lt] at h; exact .inl ⟨rfl, (Option.some.inj h).symm⟩
    · rw [List.getElem?_set_ne q] at h; exact .inr ⟨fun z => q z.symm, h⟩
  refine ⟨?_, by rw [g.n, List.length_set], fun j d hj hd => ?_, fun j k d1 d2 hj hk e1 e2 he => ?_⟩
  · intro b u hb
    rw [upd_ne (ne_of_none hb h1)]; exact g.fh b u hb
  · rcases at_ j d hj with ⟨rfl, rfl⟩ | ⟨q, h⟩
    · exact ⟨h1, o', upd_same, r⟩
    · obtain ⟨k1, u, k2, k3⟩ := g.cs j d h hd
      have ne : W.α j ≠ W.α i := fun z => q (g.inj j i d c h hi hd hc z)
      exact ⟨k1, u, by rw [upd_ne ne]; exact k2, k3⟩
  · rcases at_ j d1 hj with ⟨rfl, rfl⟩ | ⟨q, h⟩ <;> rcases at_ k d2 hk with ⟨rfl, rfl⟩ | ⟨q', h'⟩
    · rfl
    · exact g.inj _ k c d2 hi h' hc e2 he
    · exact g.inj j _ d1 c h hi e1 hc he
    · exact g.inj j k d1 d2 h h' e1 e2 he
/-- the last cells are forgotten -/
theorem Good.cut (g : Good K W M H) {n : Nat} (hn : n ≤ M.length) (hc : ∀ i xs, i < n → M[i]? = some xs → ∀ o, RepC K W xs o → RepC K { W with n := n } xs o) : Good K { W with n := n } (M.take n) H := by
  have at_ : ∀ i c, (M.take n)[i]? = some c → i < n ∧ M[i]? = some c := fun i c h => by
    have lt : i < (M.take n).length := (List.getElem?_eq_some_iff.mp h).1
    rw [List.length_take] at lt
    have q : i < n := by omega
    rw [List.getElem?_take_of_lt q] at h
    exact ⟨q, h⟩
  refine ⟨g.fh, by rw [List.length_take]; exact (Nat.min_eq_left hn).symm, fun i c hi hd => ?_, fun i j c c' hi hj hd hd' he => ?_⟩
  · obtain ⟨q, h⟩ := at_ i c hi
    obtain ⟨h1, o, h2, h3⟩ := g.cs i c h hd
    exact ⟨h1, o, h2, hc i c q h o h3⟩
  · exact g.inj i j c c' (at_ i c hi).2 (at_ j c' hj).2 hd hd' he
end
end L2

end

section
set_option Elab.async false
set_option linter.all false
set_option maxRecDepth 100000
set_option maxHeartbeats 4000000
namespace L2
open PySem PySem.Spec PyProof.Rows
abbrev Ga := List (Option CD)
abbrev Sto := List Cell
abbrev EF := Ga → Sto → Option (CD × Sto)
abbrev TF := Ga → Sto → Option (Bool × Sto)
abbrev AF := Ga → Sto → Option (List CD × Sto)
inductive Out where
  | nx (γ : Ga) | bk (γ : Ga) | ct (γ : Ga) | rt (x : CD)
abbrev SF := Ga → Sto → Option (Out × Sto)
abbrev GF := CD → Ga → Sto → Option (Ga × Sto)
abbrev GsF := List CD → Ga → Sto → Option (Ga × Sto)
abbrev F1 := CD → Sto → Option (CD × Sto)
abbrev F2 := CD → CD → Sto → Option (CD × Sto)
abbrev FN := List CD → Sto → Option (CD × Sto)
section
variable (K : PySem.W.Frag)
def SE (t : TE) (f : EF) : Prop := ∀ γ M x M', f γ M = some (x, M') → ∀ (W : Wd) (H : Hp) (σ : St) (Q : VK), Good K W M H → RepS K W γ σ → (∀ v W' H', W.Ext W' → Good K W' M' H' → RepV K W' x v → Q v H') → t σ H Q
def STt (t : TT) (f : TF) : Prop := ∀ γ M b M', f γ M = some (b, M') → ∀ (W : Wd) (H : Hp) (σ : St) (Q : Bool → Hp → Prop), Good K W M H → RepS K W γ σ → (∀ W' H', W.Ext W' → Good K W' M' H' → Q b H') → t σ H Q
def SA (t : TA) (f : AF) : Prop := ∀ γ M xs M', f γ M = some (xs, M') → ∀ (W : Wd) (H : Hp) (σ : St) (Q : List V → Hp → Prop), Good K W M H → RepS K W γ σ → (∀ vs W' H', W.Ext W' → Good K W' M' H' → RepVs K W' xs vs → Q vs H') → t σ H Q
def OutOk (D : Ends) (W : Wd) (H : Hp) : Out → Prop
  | .nx γ => ∀ σ, RepS K W γ σ → D.nx σ H
  | .bk γ => ∀ σ, RepS K W γ σ → D.bk σ H
  | .ct γ => ∀ σ, RepS K W γ σ → D.ct σ H
  | .rt x => ∀ v, RepV K W x v → D.rt v H
def SS (t : TS) (f : SF) : Prop := ∀ γ M o M', f γ M = some (o, M') → ∀ (W : Wd) (H : Hp) (σ : St) (D : Ends), Good K W M H → RepS K W γ σ → (∀ W' H', W.Ext W' → Good K W' M' H' → OutOk K D W' H' o) → t D σ H
def SG (t : TG) (f : GF) : Prop := ∀ x γ M γ' M', f x γ M = some (γ', M') → ∀ (W : Wd) (H : Hp) (σ : St) (v : V) (Q : St → Hp → Prop), Good K W M H → RepS K W γ σ → RepV K W x v → (∀ σ' W' H', W.Ext W' → Good K W' M' H' → RepS K W' γ' σ' → Q σ' H') → t v σ H Q
def SGs (t : TGs) (f : GsF) : Prop := ∀ xs γ M γ' M', f xs γ M = some (γ', M') → ∀ (W : Wd) (H : Hp) (σ : St) (vs : List V) (Q : St → Hp → Prop), Good K W M H → RepS K W γ σ → RepVs K W xs vs → (∀ σ' W' H', W.Ext W' → Good K W' M' H' → RepS K W' γ' σ' → Q σ' H') → t vs σ H Q
/-- primitives -/
def P2 (r : R2) (f : F2) : Prop := ∀ x y M z M', f x y M = some (z, M') → ∀ (W : Wd) (H : Hp) (v u : V) (Q : VK), Good K W M H → RepV K W x v → RepV K W y u → (∀ w W' H', W.Ext W' → Good K W' M' H' → RepV K W' z w → Q w H') → r v u H Q
def P1 (r : V → Hp → VK → Prop) (f : F1) : Prop := ∀ x M z M', f x M = some (z, M') → ∀ (W : Wd) (H : Hp) (v : V) (Q : VK), Good K W M H → RepV K W x v → (∀ w W' H', W.Ext W' → Good K W' M' H' → RepV K W' z w → Q w H') → r v H Q
def PN (r : List V → Hp → VK → Prop) (f : FN) : Prop := ∀ xs M z M', f xs M = some (z, M') → ∀ (W : Wd) (H : Hp) (vs : List V) (Q : VK), Good K W M H → RepVs K W xs vs → (∀ w W' H', W.Ext W' → Good K W' M' H' → RepV K W' z w → Q w H') → r vs H Q
/-- a def's promise by its mirror -/
def spM (f : FN) : Sp := fun vs H Q _ => ∃ xs M W y M', Good K W M H ∧ RepVs K W xs vs ∧ f xs M = some (y, M') ∧ ∀ v W' H', W.Ext W' → Good K W' M' H' → RepV K W' y v → Q v H'
end
/-! ### the functions -/
def fVar (i : Nat) : EF := fun γ M => match γ[i]? with
  | some (some x) => some (x, M)
  | _ => none
def fC (x : PyData) : EF := fun _ M => some (.d x, M)
def fOp (h : F2) (f g : EF) : EF := fun γ M => (f γ M).bind fun r => (g γ r.2).bind fun q => h r.1 q.1 q.2
def fUn (h : F1) (f : EF) : EF := fun γ M => (f γ M).bind fun r => h r.1 r.2
def asB : CD → Option Bool
  | .d (.bool b) => some b
  | _ => none
def fAnd (f g : EF) : EF := fun γ M => (f γ M).bind fun r => (asB r.1).bind fun b => if b = true then g γ r.2 else some (.d (.bool false), r.2)
def fOr (f g : EF) : EF := fun γ M => (f γ M).bind fun r => (asB r.1).bind fun b => if b = true then some (.d (.bool true), r.2) else g γ r.2
def fNot (f : EF) : EF := fun γ M => (f γ M).bind fun r => (asB r.1).bind fun b => some (.d (.bool (!b)), r.2)
def fIf (t : TF) (f g : EF) : EF := fun γ M => (t γ M).bind fun r => if r.1 = true then f γ r.2 else g γ r.2
def gAnd (f g : TF) : TF := fun γ M => (f γ M).bind fun r => if r.1 = true then g γ r.2 else some (false, r.2)
def gOr (f g : TF) : TF := fun γ M => (f γ M).bind fun r => if r.1 = true then some (true, r.2) else g γ r.2
def gNot (f : TF) : TF := fun γ M => (f γ M).bind fun r => some (!r.1, r.2)
def gB (f : EF) : TF := fun γ M => (f γ M).bind fun r => (asB r.1).bind fun b => some (b, r.2)
def fChain (h h' : F2) (f g e : EF) : EF := fun γ M => (f γ M).bind fun r => (g γ r.2).bind fun q => (h r.1 q.1 q.2).bind fun z => (asB z.1).bind fun b => if b = true then (e γ z.2).bind fun w => h' q.1 w.1 w.2 else some (.d (.bool false), z.2)
def fNil : AF := fun _ M => some ([], M)
def fCons (f : EF) (g : AF) : AF := fun γ M => (f γ M).bind fun r => (g γ r.2).bind fun q => some (r.1 :: q.1, q.2)
def allD : List CD → Option (List PyData)
  | [] => some []
  | .d x :: r => (allD r).map (x :: ·)
  | .c _ :: _ => none
def fTup (f : AF) : EF := fun γ M => (f γ M).bind fun r => (allD r.1).bind fun ds => if ds.length ≤ sizeLine then some (.d (.tuple ds), r.2) else none
def fLst (f : AF) : EF := fun γ M => (f γ M).bind fun r => (allD r.1).bind fun ds => if ds.length ≤ sizeLine then some (.d (.list ds), r.2) else none
/-- a list that may be changed -/
def fNew (f : AF) : EF := fun γ M => (f γ M).bind fun r => if r.1.length ≤ sizeLine then some (.c r.2.length, r.2 ++ [.lst r.1]) else none
def fCall (h : FN) (f : AF) : EF := fun γ M => (f γ M).bind fun r => h r.1 r.2
def sNext : SF := fun γ M => some (.nx γ, M)
def sSeq (f g : SF) : SF := fun γ M => (f γ M).bind fun r => match r.1 with
  | .nx γ' => g γ' r.2
  | o => some (o, r.2)
def sBreak : SF := fun γ M => some (.bk γ, M)
def sCont : SF := fun γ M => some (.ct γ, M)
def sDrop (f : EF) : SF := fun γ M => (f γ M).bind fun r => some (.nx γ, r.2)
def sRet (f : EF) : SF := fun γ M => (f γ M).bind fun r => some (.rt r.1, r.2)
def sRetN : SF := fun _ M => some (.rt (.d .none), M)
def sIf (c : TF) (f g : SF) : SF := fun γ M => (c γ M).bind fun r => if r.1 = true then f γ r.2 else g γ r.2
def sAsg (f : EF) (g : GF) : SF := fun γ M => (f γ M).bind fun r => (g r.1 γ r.2).bind fun q => some (.nx q.1, q.2)
def hName (i : Nat) : GF := fun x γ M => some (γ.set i (some x), M)
def hNil : GsF := fun xs γ M => match xs with
  | [] => some (γ, M)
  | _ => none
def hCons (f : GF) (g : GsF) : GsF := fun xs γ M => match xs with
  | x :: r => (f x γ M).bind fun q => g r q.1 q.2
  | [] => none
def hTup (n : Nat) (g : GsF) : GF := fun x γ M => match x with
  | .d (.tuple ds) => if ds.length = n then g (ds.map .d) γ M else none
  | _ => none
abbrev F3 := CD → CD → CD → Sto → Option Sto
def hSub (fo fi : EF) (s : F3) : GF := fun x γ M => (fo γ M).bind fun r => (fi γ r.2).bind fun q => (s r.1 q.1 x q.2).bind fun M' => some (γ, M')
def sPar (i j : Nat) (f : AF) : SF := fun γ M => (f γ M).bind fun r => match r.1 with
  | [x, y] => some (.nx ((γ.set i (some x)).set j (some y)), r.2)
  | _ => none
def sAug (i : Nat) (f : EF) (h : F2) : SF := fun γ M => match γ[i]? with
  | some (some x) => (f γ M).bind fun r => (h x r.1 r.2).bind fun q => some (.nx (γ.set i (some q.1)), q.2)
  | _ => none
def sAugS (fo fi fe : EF) (get op : F2) (set : F3) : SF := fun γ M => (fo γ M).bind fun o => (fi γ o.2).bind fun i => (get o.1 i.1 i.2).bind fun x => (fe γ x.2).bind fun e => (op x.1 e.1 e.2).bind fun z => (set o.1 i.1 z.1 z.2).bind fun M' => some (.nx γ, M')
/-- a loop over what is walked -/
def forF (g : GF) (b : SF) : List CD → Ga → Sto → Option (Out × Sto)
  | [], γ, M => some (.nx γ, M)
  | x :: xs, γ, M => (g x γ M).bind fun r => (b r.1 r.2).bind fun q => match q.1 with
    | .nx γ' => forF g b xs γ' q.2
    | .ct γ' => forF g b xs γ' q.2
    | .bk γ' => some (.nx γ', q.2)
    | .rt x => some (.rt x, q.2)
def sFor (f : AF) (g : GF) (b : SF) : SF := fun γ M => (f γ M).bind fun r => forF g b r.1 γ r.2
def whileN (c : TF) (b : SF) : Nat → Ga → Sto → Option (Out × Sto)
  | 0, _, _ => none
  | n + 1, γ, M => (c γ M).bind fun r => if r.1 = true then (b γ r.2).bind fun q => match q.1 with
    | .nx γ' => whileN c b n γ' q.2
    | .ct γ' => whileN c b n γ' q.2
    | .bk γ' => some (.nx γ', q.2)
    | .rt x => some (.rt x, q.2) else some (.nx γ, r.2)
open Classical in
noncomputable def sWhile (c : TF) (b : SF) : SF := fun γ M => if h : ∃ n, (whileN c b n γ M).isSome = true then whileN c b h.choose γ M else none
def lcF (g : GF) (c : TF) (e : EF) : List CD → Ga → Sto → Option (List CD × Sto)
  | [], γ, M => some ([], M)
  | x :: xs, γ, M => (g x γ M).bind fun a => (c a.1 a.2).bind fun b => if b.1 = true then (e a.1 b.2).bind fun r => (lcF g c e xs a.1 r.2).bind fun q => some (r.1 :: q.1, q.2) else lcF g c e xs a.1 b.2
def capG (cap : List (Option Nat)) (γ : Ga) : Ga := cap.map fun o => o.bind fun j => (γ[j]?).join
def gYes : TF := fun _ M => some (true, M)
def lcRun (cap : List (Option Nat)) (f : AF) (g : GF) (c : TF) (e : EF) : AF := fun γ M => (f γ M).bind fun r => if r.1.length ≤ sizeLine then lcF g c e r.1 (capG cap γ) r.2 else none
def fLc (cap : List (Option Nat)) (f : AF) (g : GF) (c : TF) (e : EF) : EF := fLst (lcRun cap f g c e)
def fLcN (cap : List (Option Nat)) (f : AF) (g : GF) (c : TF) (e : EF) : EF := fNew (lcRun cap f g c e)
def fnF (ps N : Nat) (b : SF) : FN := fun xs M => if xs.length = ps then (b (xs.map some ++ List.replicate (N - xs.length) none) M).bind fun r => match r.1 with
  | .rt x => some (x, r.2)
  | .nx _ => some (.d .none, r.2)
  | _ => none else none
end L2

end

section
set_option Elab.async false
set_option linter.all false
set_option maxRecDepth 100000
set_option maxHeartbeats 4000000
namespace L2
open PySem PySem.Spec PyProof.Rows
theorem bindE {α β : Type} {o : Option α} {k : α → Option β} {r : β} (h : o.bind k = some r) : ∃ a, o = some a ∧ k a = some r := by
  cases o with
  | none => cases h
  | some a => exact ⟨a, rfl, h⟩
theorem Paired.get {α β : Type} {R : α → β → Prop} : ∀ {xs : List α} {ys : List β} {i : Nat} {x : α}, Paired R xs ys → xs[i]? = some x → ∃ y, ys[i]? = some y ∧ R x y
  | _, _, _, _, .nil, e => by simp at e
  | _, _, 0, _, .cons r _, e => by simp at e; subst e; exact ⟨_, rfl, r⟩
  | _, _, i + 1, x, .cons _ t, e => by
    obtain ⟨u, h1, h2⟩ := Paired.get (i := i) (x := x) t (by simpa using e)
    exact ⟨u, by simpa using h1, h2⟩
theorem Paired.gets {α β : Type} {R : α → β → Prop} : ∀ {xs : List α} {ys : List β} {i : Nat} {y : β}, Paired R xs ys → ys[i]? = some y → ∃ x, xs[i]? = some x ∧ R x y
  | _, _, _, _, .nil, e => by simp at e
  | _, _, 0, _, .cons r _, e => by simp at e; subst e; exact ⟨_, rfl, r⟩
  | _, _, i + 1, y, .cons _ t, e => by
    obtain ⟨u, h1, h2⟩ := Paired.gets (i := i) (y := y) t (by simpa using e)
    exact ⟨u, by simpa using h1, h2⟩
theorem Paired.set {α β : Type} {R : α → β → Prop} {x : α} {y : β} (r : R x y) : ∀ {xs : List α} {ys : List β} (i : Nat), Paired R xs ys → Paired R (xs.set i x) (ys.set i y)
  | _, _, _, .nil => .nil
  | _, _, 0, .cons _ t => .cons r t
  | _, _, i + 1, .cons q t => .cons q (Paired.set r i t)
theorem Paired.app {α β : Type} {R : α → β → Prop} : ∀ {xs xs' : List α} {ys ys' : List β}, Paired R xs ys → Paired R xs' ys' → Paired R (xs ++ xs') (ys ++ ys')
  | _, _, _, _, .nil, s => s
  | _, _, _, _, .cons r t, s => .cons r (Paired.app t s)
theorem Paired.len {α β : Type} {R : α → β → Prop} {xs : List α} {ys : List β} (p : Paired R xs ys) : xs.length = ys.length := Paired.length p
section
variable {K : PySem.W.Frag}
theorem repAll_of {W : Wd} : ∀ {xs : List CD} {ds : List PyData} {vs : List V}, allD xs = some ds → RepVs K W xs vs → RepAll K W.F ds vs
  | [], ds, vs, e, h => by
    cases e
    cases h
    rfl
  | .c _ :: _, ds, vs, e, h => by cases e
  | .d x :: r, ds, vs, e, h => by
    cases h with
    | @cons _ v _ vs' h1 h2 =>
      unfold allD at e
      cases q : allD r with
      | none => rw [q] at e; cases e
      | some es =>
        rw [q] at e
        cases e
        exact ⟨v, vs', rfl, h1, repAll_of q h2⟩
theorem repVs_of {W : Wd} : ∀ {ds : List PyData} {vs : List V}, RepAll K W.F ds vs → RepVs K W (ds.map .d) vs
  | [], vs, h => by rw [show vs = [] from h]; exact .nil
  | d :: ds, vs, h => by
    obtain ⟨v, r, rfl, h1, h2⟩ := h
    exact .cons h1 (repVs_of h2)
theorem allD_len : ∀ {xs : List CD} {ds : List PyData}, allD xs = some ds → ds.length = xs.length
  | [], ds, e => by cases e; rfl
  | .c _ :: _, ds, e => by cases e
  | .d x :: r, ds, e => by
    unfold allD at e
    cases q : allD r with
    | none => rw [q] at e; cases e
    | some es =>
      rw [q] at e
      cases e
      rw [List.length_cons, List.length_cons, allD_len q]
/-! ### expressions -/
theorem se_var {i : Nat} : SE K (tVar i) (fVar i) := by
  intro γ M x M' h W H σ Q g r k
  unfold fVar at h
  cases e : γ[i]? with
  | none => rw [e] at h; cases h
  | some o =>
    cases o with
    | none => rw [e] at h; cases h
    | some y =>
      rw [e] at h
      cases h
      obtain ⟨v, hv, rv⟩ := Paired.get r e
      cases v with
      | none => exact False.elim rv
      | some v => exact ⟨v, hv, k v W H (.refl _) g rv⟩
theorem se_int {i : Int} : SE K (tC (.int i)) (fC (.int i)) := by
  intro γ M x M' h W H σ Q g r k
  cases h
  exact k _ W H (.refl _) g rfl
theorem se_bl {b : Bool} : SE K (tC (.bl b)) (fC (.bool b)) := by
  intro γ M x M' h W H σ Q g r k
  cases h
  exact k _ W H (.refl _) g rfl
theorem se_non : SE K (tC .non) (fC .none) := by
  intro γ M x M' h W H σ Q g r k
  cases h
  exact k _ W H (.refl _) g rfl
theorem se_str {x : Str} : SE K (tC (.str x)) (fC (.str x)) := by
  intro γ M x M' h W H σ Q g r k
  cases h
  exact k _ W H (.refl _) g rfl
variable {ta tb tc : TE} {f g e : EF} {tt uu : TT} {ft gt : TF} {tA : TA} {fa : AF}
theorem se_op {r : R2} {h : F2} (p : P2 K r h) (a : SE K ta f) (b : SE K tb g) : SE K (tOp r ta tb) (fOp h f g) := by
  intro γ M x M' hh W H σ Q G R k
  obtain ⟨⟨y, M1⟩, h1, hh⟩ := bindE hh
  obtain ⟨⟨z, M2⟩, h2, hh⟩ := bindE hh
  refine a _ _ _ _ h1 W H σ _ G R fun v W1 H1 e1 G1 r1 => ?_
  refine b _ _ _ _ h2 W1 H1 σ _ G1 (R.up e1) fun u W2 H2 e2 G2 r2 => ?_
  exact p _ _ _ _ _ hh W2 H2 v u Q G2 (r1.up e2) r2 fun w W3 H3 e3 G3 r3 => k w W3 H3 ((e1.trans e2).trans e3) G3 r3
theorem se_un {r : V → Hp → VK → Prop} {h : F1} (p : P1 K r h) (a : SE K ta f) : SE K (tUn r ta) (fUn h f) := by
  intro γ M x M' hh W H σ Q G R k
  obtain ⟨⟨y, M1⟩, h1, hh⟩ := bindE hh
  refine a _ _ _ _ h1 W H σ _ G R fun v W1 H1 e1 G1 r1 => ?_
  exact p _ _ _ _ hh W1 H1 v Q G1 r1 fun w W3 H3 e3 G3 r3 => k w W3 H3 (e1.trans e3) G3 r3
theorem asB_of {x : CD} {b : Bool} (h : asB x = some b) : x = .d (.bool b) := by
  cases x with
  | c n => cases h
  | d x => cases x <;> first | cases h; rfl | cases h
theorem se_and (a : SE K ta f) (b : SE K tb g) : SE K (tAndV ta tb) (fAnd f g) := by
  intro γ M x M' hh W H σ Q G R k
  obtain ⟨⟨y, M1⟩, h1, hh⟩ := bindE hh
  obtain ⟨c, h2, hh⟩ := bindE hh
  refine a _ _ _ _ h1 W H σ _ G R fun v W1 H1 e1 G1 r1 => ?_
  have hy : y = _ := asB_of h2
  subst hy
  refine ⟨c, r1, ?_⟩
  cases c with
  | true => rw [if_pos rfl]; rw [if_pos rfl] at hh; exact b _ _ _ _ hh W1 H1 σ Q G1 (R.up e1) fun w W3 H3 e3 G3 r3 => k w W3 H3 (e1.trans e3) G3 r3
  | false =>
    rw [if_neg Bool.false_ne_true]; rw [if_neg Bool.false_ne_true] at hh
    cases hh
    exact k _ W1 H1 e1 G1 rfl
theorem se_or (a : SE K ta f) (b : SE K tb g) : SE K (tOrV ta tb) (fOr f g) := by
  intro γ M x M' hh W H σ Q G R k
  obtain ⟨⟨y, M1⟩, h1, hh⟩ := bindE hh
  obtain ⟨c, h2, hh⟩ := bindE hh
  refine a _ _ _ _ h1 W H σ _ G R fun v W1 H1 e1 G1 r1 => ?_
  have hy : y = _ := asB_of h2
  subst hy
  refine ⟨c, r1, ?_⟩
  cases c with
  | true =>
    rw [if_pos rfl]; rw [if_pos rfl] at hh
    cases hh
    exact k _ W1 H1 e1 G1 rfl
  | false => rw [if_neg Bool.false_ne_true]; rw [if_neg Bool.false_ne_true] at hh; exact b _ _ _ _ hh W1 H1 σ Q G1 (R.up e1) fun w W3 H3 e3 G3 r3 => k w W3 H3 (e1.trans e3) G3 r3
theorem se_not (a : SE K ta f) : SE K (tNotV ta) (fNot f) := by
  intro γ M x M' hh W H σ Q G R k
  obtain ⟨⟨y, M1⟩, h1, hh⟩ := bindE hh
  obtain ⟨c, h2, hh⟩ := bindE hh
  refine a _ _ _ _ h1 W H σ _ G R fun v W1 H1 e1 G1 r1 => ?_
  have hy : y = _ := asB_of h2
  subst hy
  cases hh
  exact ⟨c, r1, k _ W1 H1 e1 G1 rfl⟩
theorem se_if (t : STt K tt ft) (a : SE K ta f) (b : SE K tb g) : SE K (tIf tt ta tb) (fIf ft f g) := by
  intro γ M x M' hh W H σ Q G R k
  obtain ⟨⟨c, M1⟩, h1, hh⟩ := bindE hh
  refine t _ _ _ _ h1 W H σ _ G R fun W1 H1 e1 G1 => ?_
  cases c with
  | true => rw [if_pos rfl]; rw [if_pos rfl] at hh; exact a _ _ _ _ hh W1 H1 σ Q G1 (R.up e1) fun w W3 H3 e3 G3 r3 => k w W3 H3 (e1.trans e3) G3 r3
  | false => rw [if_neg Bool.false_ne_true]; rw [if_neg Bool.false_ne_true] at hh; exact b _ _ _ _ hh W1 H1 σ Q G1 (R.up e1) fun w W3 H3 e3 G3 r3 => k w W3 H3 (e1.trans e3) G3 r3
theorem se_chain {r r' : R2} {h h' : F2} (p : P2 K r h) (p' : P2 K r' h') (a : SE K ta f) (b : SE K tb g) (c : SE K tc e) : SE K (tChain r r' ta tb tc) (fChain h h' f g e) := by
  intro γ M x M' hh W H σ Q G R k
  obtain ⟨⟨y, M1⟩, h1, hh⟩ := bindE hh
  obtain ⟨⟨z, M2⟩, h2, hh⟩ := bindE hh
  obtain ⟨⟨w, M3⟩, h3, hh⟩ := bindE hh
  obtain ⟨q, h4, hh⟩ := bindE hh
  refine a _ _ _ _ h1 W H σ _ G R fun v W1 H1 e1 G1 r1 => ?_
  refine b _ _ _ _ h2 W1 H1 σ _ G1 (R.up e1) fun u W2 H2 e2 G2 r2 => ?_
  refine p _ _ _ _ _ h3 W2 H2 v u _ G2 (r1.up e2) r2 fun t W3 H3 e3 G3 r3 => ?_
  have hy : w = _ := asB_of h4
  subst hy
  refine ⟨q, r3, ?_⟩
  have e13 := (e1.trans e2).trans e3
  cases q with
  | true =>
    rw [if_pos rfl]; rw [if_pos rfl] at hh
    obtain ⟨⟨m, M4⟩, h5, hh⟩ := bindE hh
    refine c _ _ _ _ h5 W3 H3 σ _ G3 (R.up e13) fun o W4 H4 e4 G4 r4 => ?_
    exact p' _ _ _ _ _ hh W4 H4 u o Q G4 (r2.up (e3.trans e4)) r4 fun w W5 H5 e5 G5 r5 => k w W5 H5 ((e13.trans e4).trans e5) G5 r5
  | false =>
    rw [if_neg Bool.false_ne_true]; rw [if_neg Bool.false_ne_true] at hh
    cases hh
    exact k _ W3 H3 e13 G3 rfl
/-! ### tests -/
theorem st_and (a : STt K tt ft) (b : STt K uu gt) : STt K (tAnd tt uu) (gAnd ft gt) := by
  intro γ M x M' hh W H σ Q G R k
  obtain ⟨⟨c, M1⟩, h1, hh⟩ := bindE hh
  refine a _ _ _ _ h1 W H σ _ G R fun W1 H1 e1 G1 => ?_
  cases c with
  | true => rw [if_pos rfl]; rw [if_pos rfl] at hh; exact b _ _ _ _ hh W1 H1 σ Q G1 (R.up e1) fun W3 H3 e3 G3 => k W3 H3 (e1.trans e3) G3
  | false => rw [if_neg Bool.false_ne_true]; rw [if_neg Bool.false_ne_true] at hh; cases hh; exact k W1 H1 e1 G1
theorem st_or (a : STt K tt ft) (b : STt K uu gt) : STt K (tOr tt uu) (gOr ft gt) := by
  intro γ M x M' hh W H σ Q G R k
  obtain ⟨⟨c, M1⟩, h1, hh⟩ := bindE hh
  refine a _ _ _ _ h1 W H σ _ G R fun W1 H1 e1 G1 => ?_
  cases c with
  | true => rw [if_pos rfl]; rw [if_pos rfl] at hh; cases hh; exact k W1 H1 e1 G1
  | false => rw [if_neg Bool.false_ne_true]; rw [if_neg Bool.false_ne_true] at hh; exact b _ _ _ _ hh W1 H1 σ Q G1 (R.up e1) fun W3 H3 e3 G3 => k W3 H3 (e1.trans e3) G3
theorem st_not (a : STt K tt ft) : STt K (tNot tt) (gNot ft) := by
  intro γ M x M' hh W H σ Q G R k
  obtain ⟨⟨c, M1⟩, h1, hh⟩ := bindE hh
  cases hh
  exact a _ _ _ _ h1 W H σ _ G R fun W1 H1 e1 G1 => k W1 H1 e1 G1
theorem st_b (a : SE K ta f) : STt K (tB ta) (gB f) := by
  intro γ M x M' hh W H σ Q G R k
  obtain ⟨⟨y, M1⟩, h1, hh⟩ := bindE hh
  obtain ⟨c, h2, hh⟩ := bindE hh
  refine a _ _ _ _ h1 W H σ _ G R fun v W1 H1 e1 G1 r1 => ?_
  have hy : y = _ := asB_of h2
  subst hy
  cases hh
  exact ⟨_, r1, k W1 H1 e1 G1⟩
theorem st_test (a : SE K ta f) : STt K (tTest ta) (gB f) := st_b a
/-! ### arguments, displays, calls -/
theorem sa_nil : SA K tNil fNil := by
  intro γ M x M' hh W H σ Q G R k
  cases hh
  exact k [] W H (.refl _) G .nil
theorem sa_cons (a : SE K ta f) (b : SA K tA fa) : SA K (tCons ta tA) (fCons f fa) := by
  intro γ M x M' hh W H σ Q G R k
  obtain ⟨⟨y, M1⟩, h1, hh⟩ := bindE hh
  obtain ⟨⟨ys, M2⟩, h2, hh⟩ := bindE hh
  cases hh
  refine a _ _ _ _ h1 W H σ _ G R fun v W1 H1 e1 G1 r1 => ?_
  exact b _ _ _ _ h2 W1 H1 σ _ G1 (R.up e1) fun vs W2 H2 e2 G2 r2 => k _ W2 H2 (e1.trans e2) G2 (.cons (r1.up e2) r2)
theorem se_tup (b : SA K tA fa) : SE K (tTup tA) (fTup fa) := by
  intro γ M x M' hh W H σ Q G R k
  obtain ⟨⟨ys, M1⟩, h1, hh⟩ := bindE hh
  obtain ⟨ds, h2, hh⟩ := bindE hh
  by_cases hl : ds.length ≤ sizeLine
  · rw [if_pos hl] at hh
    cases hh
    refine b _ _ _ _ h1 W H σ _ G R fun vs W1 H1 e1 G1 r1 => ?_
    have ra := repAll_of h2 r1
    refine ⟨by rw [← ra.length]; exact hl, fun p hp => ?_⟩
    obtain ⟨e2, G2⟩ := G1.lay (o := .tup vs) hp
    exact k _ _ _ (e1.trans e2) G2 ⟨p, vs, rfl, SqT.of upd_same, RepAll.same e2.ff _ _ ra⟩
  · rw [if_neg hl] at hh; cases hh
theorem se_lst (b : SA K tA fa) : SE K (tLst tA) (fLst fa) := by
  intro γ M x M' hh W H σ Q G R k
  obtain ⟨⟨ys, M1⟩, h1, hh⟩ := bindE hh
  obtain ⟨ds, h2, hh⟩ := bindE hh
  by_cases hl : ds.length ≤ sizeLine
  · rw [if_pos hl] at hh
    cases hh
    refine b _ _ _ _ h1 W H σ _ G R fun vs W1 H1 e1 G1 r1 => ?_
    have ra := repAll_of h2 r1
    refine ⟨by rw [← ra.length]; exact hl, fun p hp => ?_⟩
    obtain ⟨e2, G2⟩ := G1.lay (o := .lst vs) hp
    exact k _ _ _ (e1.trans e2) G2 ⟨p, vs, rfl, SqL.of upd_same, RepAll.same e2.ff _ _ ra⟩
  · rw [if_neg hl] at hh; cases hh
theorem Good.newV {W : Wd} {M : Sto} {H : Hp} (g : Good K W M H) {p : Addr} : RepV K (W.more p) (.c M.length) (.ref p) := by
  refine ⟨?_, ?_⟩
  · show M.length < W.n + 1
    rw [g.n]; exact Nat.lt_succ_self _
  · show V.ref p = .ref (if M.length = W.n then p else W.α M.length)
    rw [if_pos g.n.symm]
theorem se_new (b : SA K tA fa) : SE K (tLst tA) (fNew fa) := by
  intro γ M x M' hh W H σ Q G R k
  obtain ⟨⟨ys, M1⟩, h1, hh⟩ := bindE hh
  by_cases hl : ys.length ≤ sizeLine
  · have hh : (if ys.length ≤ sizeLine then some (CD.c M1.length, M1 ++ [Cell.lst ys]) else none) = some (x, M') := hh
    rw [if_pos hl] at hh
    cases hh
    refine b _ _ _ _ h1 W H σ _ G R fun vs W1 H1 e1 G1 r1 => ?_
    refine ⟨by rw [← Paired.len r1]; exact hl, fun p hp => ?_⟩
    exact k _ _ _ (e1.trans (W1.ext_more p)) (G1.new hp (c := .lst ys) (o := .lst vs) r1) G1.newV
  · have hh : (if ys.length ≤ sizeLine then some (CD.c M1.length, M1 ++ [Cell.lst ys]) else none) = some (x, M') := hh
    rw [if_neg hl] at hh; cases hh
theorem se_call {h : FN} (b : SA K tA fa) : SE K (tCall (spM K h) [] E0 tA) (fCall h fa) := by
  intro γ M x M' hh W H σ Q G R k
  obtain ⟨⟨ys, M1⟩, h1, hh⟩ := bindE hh
  refine b _ _ _ _ h1 W H σ _ G R fun vs W1 H1 e1 G1 r1 => ?_
  rw [List.append_nil]
  exact ⟨ys, M1, W1, x, M', G1, r1, hh, fun v W2 H2 e2 G2 r2 => k v W2 H2 (e1.trans e2) G2 r2⟩
theorem se_cb {r : List V → Hp → VK → Prop} {h : FN} (p : PN K r h) (b : SA K tA fa) : SE K (tCB r tA) (fCall h fa) := by
  intro γ M x M' hh W H σ Q G R k
  obtain ⟨⟨ys, M1⟩, h1, hh⟩ := bindE hh
  refine b _ _ _ _ h1 W H σ _ G R fun vs W1 H1 e1 G1 r1 => ?_
  exact p _ _ _ _ hh W1 H1 vs Q G1 r1 fun v W2 H2 e2 G2 r2 => k v W2 H2 (e1.trans e2) G2 r2
end
end L2

end

section
set_option Elab.async false
set_option linter.all false
set_option maxRecDepth 100000
set_option maxHeartbeats 4000000
namespace L2
open PySem PySem.Spec PyProof.Rows
section
variable {K : PySem.W.Frag} {ta tb tc : TE} {f g e : EF} {tt uu : TT} {ft gt : TF} {tA : TA} {fa : AF} {t u : TS} {p q : SF} {tg : TG} {hg : GF} {tgs : TGs} {hgs : GsF}
theorem ss_next : SS K tNext sNext := by
  intro γ M o M' hh W H σ D G R k
  cases hh
  exact k W H (.refl _) G σ R
theorem OutOk.nxOf {D : Ends} {W : Wd} {H : Hp} {o : Out} {N : St → Hp → Prop} (h : OutOk K D W H o) (hn : ∀ γ σ, o = .nx γ → RepS K W γ σ → N σ H) : OutOk K { D with nx := N } W H o := by
  cases o with
  | nx γ => exact fun σ r => hn γ σ rfl r
  | bk γ => exact h
  | ct γ => exact h
  | rt x => exact h
theorem ss_seq (a : SS K t p) (b : SS K u q) : SS K (tSeq t u) (sSeq p q) := by
  intro γ M o M' hh W H σ D G R k
  obtain ⟨⟨o1, M1⟩, h1, hh⟩ := bindE hh
  refine a _ _ _ _ h1 W H σ _ G R fun W1 H1 e1 G1 => ?_
  cases o1 with
  | nx γ1 =>
    intro σ1 R1
    exact b _ _ _ _ hh W1 H1 σ1 D G1 R1 fun W2 H2 e2 G2 => k W2 H2 (e1.trans e2) G2
  | bk γ1 => cases hh; exact k W1 H1 e1 G1
  | ct γ1 => cases hh; exact k W1 H1 e1 G1
  | rt x => cases hh; exact k W1 H1 e1 G1
theorem ss_break : SS K tBreak sBreak := by
  intro γ M o M' hh W H σ D G R k
  cases hh
  exact k W H (.refl _) G σ R
theorem ss_cont : SS K tCont sCont := by
  intro γ M o M' hh W H σ D G R k
  cases hh
  exact k W H (.refl _) G σ R
theorem ss_drop (a : SE K ta f) : SS K (tDrop ta) (sDrop f) := by
  intro γ M o M' hh W H σ D G R k
  obtain ⟨⟨y, M1⟩, h1, hh⟩ := bindE hh
  cases hh
  exact a _ _ _ _ h1 W H σ _ G R fun v W1 H1 e1 G1 r1 => k W1 H1 e1 G1 σ (R.up e1)
theorem ss_ret (a : SE K ta f) : SS K (tRet ta) (sRet f) := by
  intro γ M o M' hh W H σ D G R k
  obtain ⟨⟨y, M1⟩, h1, hh⟩ := bindE hh
  cases hh
  exact a _ _ _ _ h1 W H σ _ G R fun v W1 H1 e1 G1 r1 => k W1 H1 e1 G1 v r1
theorem ss_retN : SS K tRetN sRetN := by
  intro γ M o M' hh W H σ D G R k
  cases hh
  exact k W H (.refl _) G .non rfl
theorem ss_if (c : STt K tt ft) (a : SS K t p) (b : SS K u q) : SS K (tIfS tt t u) (sIf ft p q) := by
  intro γ M o M' hh W H σ D G R k
  obtain ⟨⟨c1, M1⟩, h1, hh⟩ := bindE hh
  refine c _ _ _ _ h1 W H σ _ G R fun W1 H1 e1 G1 => ?_
  cases c1 with
  | true => rw [if_pos rfl]; rw [if_pos rfl] at hh; exact a _ _ _ _ hh W1 H1 σ D G1 (R.up e1) fun W3 H3 e3 G3 => k W3 H3 (e1.trans e3) G3
  | false => rw [if_neg Bool.false_ne_true]; rw [if_neg Bool.false_ne_true] at hh; exact b _ _ _ _ hh W1 H1 σ D G1 (R.up e1) fun W3 H3 e3 G3 => k W3 H3 (e1.trans e3) G3
theorem ss_asg (a : SE K ta f) (b : SG K tg hg) : SS K (tAsg ta tg) (sAsg f hg) := by
  intro γ M o M' hh W H σ D G R k
  obtain ⟨⟨y, M1⟩, h1, hh⟩ := bindE hh
  obtain ⟨⟨γ1, M2⟩, h2, hh⟩ := bindE hh
  cases hh
  refine a _ _ _ _ h1 W H σ _ G R fun v W1 H1 e1 G1 r1 => ?_
  exact b _ _ _ _ _ h2 W1 H1 σ v _ G1 (R.up e1) r1 fun σ' W2 H2 e2 G2 R2 => k W2 H2 (e1.trans e2) G2 σ' R2
theorem RepS.set {W : Wd} {γ : Ga} {σ : St} {x : CD} {v : V} (R : RepS K W γ σ) (i : Nat) (r : RepV K W x v) : RepS K W (γ.set i (some x)) (σ.set i (some v)) := Paired.set (R := RepO K W) (show RepO K W (some x) (some v) from r) i R
theorem sg_name {i : Nat} : SG K (gName i) (hName i) := by
  intro x γ M γ' M' hh W H σ v Q G R r k
  cases hh
  exact k _ W H (.refl _) G (RepS.set R i r)
theorem sgs_nil : SGs K gNil hNil := by
  intro xs γ M γ' M' hh W H σ vs Q G R r k
  cases r with
  | nil => cases hh; exact ⟨rfl, k σ W H (.refl _) G R⟩
  | cons _ _ => cases hh
theorem sgs_cons (a : SG K tg hg) (b : SGs K tgs hgs) : SGs K (gCons tg tgs) (hCons hg hgs) := by
  intro xs γ M γ' M' hh W H σ vs Q G R r k
  cases r with
  | nil => cases hh
  | @cons x v xs vs r1 r2 =>
    obtain ⟨⟨γ1, M1⟩, h1, hh⟩ := bindE (show (hg x γ M).bind _ = _ from hh)
    refine ⟨v, vs, rfl, a _ _ _ _ _ h1 W H σ v _ G R r1 fun σ1 W1 H1 e1 G1 R1 => ?_⟩
    exact b _ _ _ _ _ hh W1 H1 σ1 vs _ G1 R1 (RepVs.up r2 e1) fun σ2 W2 H2 e2 G2 R2 => k σ2 W2 H2 (e1.trans e2) G2 R2
theorem sg_tup {n : Nat} (b : SGs K tgs hgs) : SG K (gTup K n tgs) (hTup n hgs) := by
  intro x γ M γ' M' hh W H σ v Q G R r k
  cases x with
  | c _ => cases hh
  | d x =>
    cases x with
    | tuple ds =>
      have hh : (if ds.length = n then hgs (ds.map .d) γ M else none) = some (γ', M') := hh
      by_cases hl : ds.length = n
      · rw [if_pos hl] at hh
        obtain ⟨a, vs, rfl, h2, h3⟩ := (show ∃ a vs, v = .ref a ∧ SqT K W.F a vs ∧ RepAll K W.F ds vs from r)
        exact ⟨a, vs, rfl, G.fh.seqT h2, by rw [← h3.length]; exact hl, b _ _ _ _ _ hh W H σ vs Q G R (repVs_of h3) k⟩
      · rw [if_neg hl] at hh; cases hh
    | _ => cases hh
/-- stores into a list -/
def P3 (K : PySem.W.Frag) (r : V → V → V → Hp → (Hp → Prop) → Prop) (f : F3) : Prop := ∀ x y z M M', f x y z M = some M' → ∀ (W : Wd) (H : Hp) (v u w : V) (Q : Hp → Prop), Good K W M H → RepV K W x v → RepV K W y u → RepV K W z w → (∀ W' H', W.Ext W' → Good K W' M' H' → Q H') → r v u w H Q
theorem sg_sub {r : TSet} {s : F3} (p : P3 K r s) (a : SE K ta f) (b : SE K tb g) : SG K (gSub ta tb r) (hSub f g s) := by
  intro x γ M γ' M' hh W H σ v Q G R rv k
  obtain ⟨⟨o, M1⟩, h1, hh⟩ := bindE hh
  obtain ⟨⟨i, M2⟩, h2, hh⟩ := bindE hh
  obtain ⟨M3, h3, hh⟩ := bindE hh
  cases hh
  refine a _ _ _ _ h1 W H σ _ G R fun v1 W1 H1 e1 G1 r1 => ?_
  refine b _ _ _ _ h2 W1 H1 σ _ G1 (R.up e1) fun v2 W2 H2 e2 G2 r2 => ?_
  exact p _ _ _ _ _ h3 W2 H2 v1 v2 v _ G2 (r1.up e2) r2 (rv.up (e1.trans e2)) fun W3 H3 e3 G3 => k σ W3 H3 ((e1.trans e2).trans e3) G3 (R.up ((e1.trans e2).trans e3))
theorem ss_par {i j : Nat} (b : SA K tA fa) : SS K (tPar i j tA) (sPar i j fa) := by
  intro γ M o M' hh W H σ D G R k
  obtain ⟨⟨ys, M1⟩, h1, hh⟩ := bindE hh
  refine b _ _ _ _ h1 W H σ _ G R fun vs W1 H1 e1 G1 r1 => ?_
  rcases r1 with _ | ⟨a1, _ | ⟨a2, _ | _⟩⟩
  · cases hh
  · cases hh
  · cases hh
    exact ⟨_, _, rfl, k W1 H1 e1 G1 _ (RepS.set (RepS.set (R.up e1) i a1) j a2)⟩
  · cases hh
theorem ss_aug {i : Nat} {r : TIp} {h : F2} (pr : P2 K r h) (a : SE K ta f) : SS K (tAug i ta r) (sAug i f h) := by
  intro γ M o M' hh W H σ D G R k
  unfold sAug at hh
  cases e : γ[i]? with
  | none => rw [e] at hh; cases hh
  | some ov =>
    cases ov with
    | none => rw [e] at hh; cases hh
    | some y =>
      rw [e] at hh
      obtain ⟨v, hv, rv⟩ := Paired.get R e
      cases v with
      | none => exact False.elim rv
      | some v =>
        obtain ⟨⟨z, M1⟩, h1, hh⟩ := bindE hh
        obtain ⟨⟨z2, M2⟩, h2, hh⟩ := bindE hh
        cases hh
        refine ⟨v, hv, a _ _ _ _ h1 W H σ _ G R fun v1 W1 H1 e1 G1 r1 => ?_⟩
        exact pr _ _ _ _ _ h2 W1 H1 v v1 _ G1 (RepV.up (show RepV K W y v from rv) e1) r1 fun w W2 H2 e2 G2 r2 => k W2 H2 (e1.trans e2) G2 _ (RepS.set (R.up (e1.trans e2)) i r2)
theorem ss_augS {rg : V → V → Hp → VK → Prop} {ro : TIp} {rs : TSet} {fg fo : F2} {fs : F3} (pg : P2 K rg fg) (po : P2 K ro fo) (ps : P3 K rs fs) (a : SE K ta f) (b : SE K tb g) (c : SE K tc e) : SS K (tAugS ta tb tc rg ro rs) (sAugS f g e fg fo fs) := by
  intro γ M o M' hh W H σ D G R k
  obtain ⟨⟨x1, M1⟩, h1, hh⟩ := bindE hh
  obtain ⟨⟨x2, M2⟩, h2, hh⟩ := bindE hh
  obtain ⟨⟨x3, M3⟩, h3, hh⟩ := bindE hh
  obtain ⟨⟨x4, M4⟩, h4, hh⟩ := bindE hh
  obtain ⟨⟨x5, M5⟩, h5, hh⟩ := bindE hh
  obtain ⟨M6, h6, hh⟩ := bindE hh
  cases hh
  refine a _ _ _ _ h1 W H σ _ G R fun v1 W1 H1 e1 G1 r1 => ?_
  refine b _ _ _ _ h2 W1 H1 σ _ G1 (R.up e1) fun v2 W2 H2 e2 G2 r2 => ?_
  refine pg _ _ _ _ _ h3 W2 H2 v1 v2 _ G2 (r1.up e2) r2 fun v3 W3 H3 e3 G3 r3 => ?_
  have e03 := (e1.trans e2).trans e3
  refine c _ _ _ _ h4 W3 H3 σ _ G3 (R.up e03) fun v4 W4 H4 e4 G4 r4 => ?_
  refine po _ _ _ _ _ h5 W4 H4 v3 v4 _ G4 (r3.up e4) r4 fun v5 W5 H5 e5 G5 r5 => ?_
  have e35 := (e3.trans e4).trans e5
  exact ps _ _ _ _ _ h6 W5 H5 v1 v2 v5 _ G5 (r1.up (e2.trans e35)) (r2.up e35) r5 fun W6 H6 e6 G6 => k W6 H6 (((e03.trans e4).trans e5).trans e6) G6 σ (R.up (((e03.trans e4).trans e5).trans e6))
/-! ### what is walked -/
def GivesW (K : PySem.W.Frag) (J : It) (xs : List CD) (W : Wd) : Prop := ∀ W' M' H', W.Ext W' → Good K W' M' H' →
  (∀ i x, xs[i]? = some x → J.go i H' ∧ ∀ y H'', J.yld i H' y H'' → H'' = H' ∧ RepV K W' x y) ∧ J.stop xs.length H'
def SI (K : PySem.W.Frag) (wi : TI) (f : AF) : Prop := ∀ γ M xs M', f γ M = some (xs, M') → ∀ (W : Wd) (H : Hp) (σ : St) (R : It → Hp → Prop), Good K W M H → RepS K W γ σ → (∀ J W' H', W.Ext W' → Good K W' M' H' → GivesW K J xs W' → R J H') → wi σ H R
def fItems (f : EF) : AF := fun γ M => (f γ M).bind fun r => match r.1 with
  | .d x => (itemsD x).bind fun ds => some (ds.map .d, r.2)
  | _ => none
theorem si_seq (a : SE K ta f) : SI K (iSeq K ta) (fItems f) := by
  intro γ M xs M' hh W H σ R G Rs k
  obtain ⟨⟨y, M1⟩, h1, hh⟩ := bindE hh
  cases y with
  | c _ => cases hh
  | d y =>
    obtain ⟨ds, h2, hh⟩ := bindE (show (itemsD y).bind _ = _ from hh)
    cases hh
    refine a _ _ _ _ h1 W H σ _ G Rs fun v W1 H1 e1 G1 r1 => ?_
    obtain ⟨p, vs, rfl, hs, hr⟩ := rep_seq (show Rep K W1.F y v from r1) h2
    refine ⟨p, rfl, ?_⟩
    have item : ∀ (i : Nat) (x : CD) (W2 : Wd), W1.Ext W2 → (ds.map CD.d)[i]? = some x → ∃ u, vs[i]? = some u ∧ RepV K W2 x u := fun i x W2 e2 hx => by
      obtain ⟨u, hu, ru⟩ := Paired.get (repVs_of hr) hx
      exact ⟨u, hu, ru.up e2⟩
    have hlen : (ds.map CD.d).length = vs.length := by rw [List.length_map]; exact hr.length
    rcases hs with hs | hs
    · refine .inl ⟨vs, G1.fh.seq hs, k _ W1 H1 e1 G1 fun W2 M2 H2 e2 G2 => ?_⟩
      have hs2 : SqL K H2 p vs := G2.fh.seq (e2.ff.seq hs)
      refine ⟨fun i x hx => ?_, ?_⟩
      · obtain ⟨u, hu, ru⟩ := item i x W2 e2 hx
        refine ⟨⟨vs, u, hs2, hu⟩, fun y' H'' hy => ⟨hy.1, ?_⟩⟩
        have := hy.2 vs hs2
        rw [hu] at this
        cases this
        exact ru
      · rw [hlen]
        exact ⟨vs, hs2, Nat.le_refl _⟩
    · refine .inr ⟨vs, G1.fh.seqT hs, k _ W1 H1 e1 G1 fun W2 M2 H2 e2 G2 => ?_⟩
      have hs2 : SqT K H2 p vs := G2.fh.seqT (e2.ff.seqT hs)
      refine ⟨fun i x hx => ?_, ?_⟩
      · obtain ⟨u, hu, ru⟩ := item i x W2 e2 hx
        refine ⟨⟨vs, u, hs2, hu⟩, fun y' H'' hy => ⟨hy.1, ?_⟩⟩
        have := hy.2 vs hs2
        rw [hu] at this
        cases this
        exact ru
      · rw [hlen]
        exact ⟨vs, hs2, Nat.le_refl _⟩
/-- lo, lo + 1, .. : n of them -/
def rngD (lo : Int) (n : Nat) : List CD := (List.range n).map fun i => .d (.int (lo + (i : Nat)))
theorem rngD_get {lo : Int} {n i : Nat} {x : CD} (h : (rngD lo n)[i]? = some x) : i < n ∧ x = .d (.int (lo + i)) := by
  unfold rngD at h
  rw [List.getElem?_map] at h
  by_cases hi : i < n
  · rw [List.getElem?_range hi] at h
    exact ⟨hi, (Option.some.inj h).symm⟩
  · rw [List.getElem?_eq_none_iff.mpr (by simpa using hi)] at h
    cases h
def small62 (i : Int) : Bool := decide (-(2 ^ 62) ≤ i) && decide (i < 2 ^ 62)
def fRng1 (f : AF) : AF := fun γ M => (f γ M).bind fun r => match r.1 with
  | [.d (.int j)] => if small62 j = true then some (rngD 0 j.toNat, r.2) else none
  | _ => none
def fRng2 (f : AF) : AF := fun γ M => (f γ M).bind fun r => match r.1 with
  | [.d (.int i), .d (.int j)] => if small62 i = true ∧ small62 j = true then some (rngD i (j - i).toNat, r.2) else none
  | _ => none
theorem gives_rng {lo : Int} {n : Nat} {W : Wd} : GivesW K (Itr lo n) (rngD lo n) W := fun W' M' H' e G =>
  ⟨fun i x hx => ⟨(rngD_get hx).1, fun y H'' hy => ⟨hy.1, by rw [(rngD_get hx).2]; exact hy.2⟩⟩, by show n ≤ _; simp [rngD]⟩
theorem small62_of {i : Int} (h : small62 i = true) : -(2 ^ 62) ≤ i ∧ i < 2 ^ 62 := by
  unfold small62 at h
  rw [Bool.and_eq_true] at h
  exact ⟨of_decide_eq_true h.1, of_decide_eq_true h.2⟩
theorem si_rng1 (b : SA K tA fa) : SI K (iRng1 tA) (fRng1 fa) := by
  intro γ M xs M' hh W H σ R G Rs k
  obtain ⟨⟨ys, M1⟩, h1, hh⟩ := bindE hh
  refine b _ _ _ _ h1 W H σ _ G Rs fun vs W1 H1 e1 G1 r1 => ?_
  revert hh
  dsimp only
  split
  · rename_i j
    intro hh
    by_cases hs : small62 j = true
    · rw [if_pos hs] at hh
      cases hh
      cases r1 with
      | cons r r' =>
        cases r'
        exact ⟨j, by rw [show _ = V.int j from r], (small62_of hs).1, (small62_of hs).2, k _ W1 H1 e1 G1 gives_rng⟩
    · rw [if_neg hs] at hh; cases hh
  · intro hh; cases hh
theorem si_rng2 (b : SA K tA fa) : SI K (iRng2 tA) (fRng2 fa) := by
  intro γ M xs M' hh W H σ R G Rs k
  obtain ⟨⟨ys, M1⟩, h1, hh⟩ := bindE hh
  refine b _ _ _ _ h1 W H σ _ G Rs fun vs W1 H1 e1 G1 r1 => ?_
  revert hh
  dsimp only
  split
  · rename_i i j
    intro hh
    by_cases hs : small62 i = true ∧ small62 j = true
    · rw [if_pos hs] at hh
      cases hh
      cases r1 with
      | cons r r' =>
        cases r' with
        | cons r2 r'' =>
          cases r''
          exact ⟨i, j, by rw [show _ = V.int i from r, show _ = V.int j from r2], ⟨(small62_of hs.1).1, (small62_of hs.1).2, (small62_of hs.2).1, (small62_of hs.2).2⟩, k _ W1 H1 e1 G1 gives_rng⟩
    · rw [if_neg hs] at hh; cases hh
  · intro hh; cases hh
/-! ### loops -/
theorem ss_for {wi : TI} (i : SI K wi fa) (a : SG K tg hg) (b : SS K t p) : SS K (tFor wi tg t) (sFor fa hg p) := by
  intro γ M o M' hh W H σ D G R k
  obtain ⟨⟨xs, M1⟩, h1, hh⟩ := bindE hh
  have hh : forF hg p xs γ M1 = some (o, M') := hh
  refine i _ _ _ _ h1 W H σ _ G R fun J W1 H1 e1 G1 gv => ?_
  refine ⟨fun j m σ' H' => ∃ γ' M2 W2, j ≤ xs.length ∧ m = xs.length - j ∧ W1.Ext W2 ∧ Good K W2 M2 H' ∧ RepS K W2 γ' σ' ∧ forF hg p (xs.drop j) γ' M2 = some (o, M'), ⟨_, γ, M1, W1, Nat.zero_le _, rfl, .refl _, G1, R.up e1, hh⟩, ?_⟩
  rintro j m σ' H' ⟨γ', M2, W2, hj, rfl, e2, G2, R2, h2⟩
  obtain ⟨gv1, gv2⟩ := gv W2 M2 H' e2 G2
  by_cases hlt : j < xs.length
  · obtain ⟨go, yl⟩ := gv1 j xs[j] (List.getElem?_eq_getElem hlt)
    rw [List.drop_eq_getElem_cons hlt] at h2
    refine .inr ⟨go, fun σ3 H3 => ∃ γ3 M3 W3, W2.Ext W3 ∧ Good K W3 M3 H3 ∧ RepS K W3 γ3 σ3 ∧ forF hg p (xs.drop (j + 1)) γ3 M3 = some (o, M'), ?_, fun y H3 hy => ?_⟩
    · rintro σ3 H3 ⟨γ3, M3, W3, e3, G3, R3, h3⟩
      exact ⟨_, by omega, γ3, M3, W3, hlt, rfl, e2.trans e3, G3, R3, h3⟩
    · obtain ⟨rfl, ry⟩ := yl y H3 hy
      obtain ⟨⟨γ4, M4⟩, h4, h2⟩ := bindE (show (hg xs[j] γ' M2).bind _ = _ from h2)
      obtain ⟨⟨o5, M5⟩, h5, h2⟩ := bindE h2
      refine a _ _ _ _ _ h4 W2 _ σ' y _ G2 R2 ry fun σ4 W4 H4 e4 G4 R4 => ?_
      refine b _ _ _ _ h5 W4 H4 σ4 _ G4 R4 fun W5 H5 e5 G5 => ?_
      have e25 := e4.trans e5
      cases o5 with
      | nx γ5 => exact fun σ5 R5 => ⟨γ5, M5, W5, e25, G5, R5, h2⟩
      | ct γ5 => exact fun σ5 R5 => ⟨γ5, M5, W5, e25, G5, R5, h2⟩
      | bk γ5 => cases h2; exact k W5 H5 ((e1.trans e2).trans e25) G5
      | rt x => cases h2; exact k W5 H5 ((e1.trans e2).trans e25) G5
  · have e : j = xs.length := by omega
    subst e
    rw [List.drop_length] at h2
    cases h2
    exact .inl ⟨gv2, k W2 H' (e1.trans e2) G2 σ' R2⟩
theorem ss_while (c : STt K tt ft) (b : SS K t p) : SS K (tWhile tt t) (sWhile ft p) := by
  intro γ M o M' hh W H σ D G R k
  unfold sWhile at hh
  by_cases hex : ∃ n, (whileN ft p n γ M).isSome = true
  · rw [dif_pos hex] at hh
    generalize hex.choose = n at hh
    refine ⟨fun m σ' H' => ∃ γ' M2 W2, W.Ext W2 ∧ Good K W2 M2 H' ∧ RepS K W2 γ' σ' ∧ whileN ft p m γ' M2 = some (o, M'), ⟨n, γ, M, W, .refl _, G, R, hh⟩, ?_⟩
    rintro m σ' H' ⟨γ', M2, W2, e2, G2, R2, h2⟩
    cases m with
    | zero => cases h2
    | succ m =>
      obtain ⟨⟨c3, M3⟩, h3, h2⟩ := bindE (show (ft γ' M2).bind _ = _ from h2)
      refine c _ _ _ _ h3 W2 H' σ' _ G2 R2 fun W3 H3 e3 G3 => ?_
      cases c3 with
      | true =>
        rw [if_pos rfl]; rw [if_pos rfl] at h2
        obtain ⟨⟨o4, M4⟩, h4, h2⟩ := bindE h2
        refine ⟨fun σ4 H4 => ∃ γ4 M4 W4, W2.Ext W4 ∧ Good K W4 M4 H4 ∧ RepS K W4 γ4 σ4 ∧ whileN ft p m γ4 M4 = some (o, M'), ?_, ?_⟩
        · rintro σ4 H4 ⟨γ4, M4, W4, e4, G4, R4, h4⟩
          exact ⟨m, Nat.lt_succ_self _, γ4, M4, W4, e2.trans e4, G4, R4, h4⟩
        · refine b _ _ _ _ h4 W3 H3 σ' _ G3 (R2.up e3) fun W5 H5 e5 G5 => ?_
          have e25 := e3.trans e5
          cases o4 with
          | nx γ5 => exact fun σ5 R5 => ⟨γ5, M4, W5, e25, G5, R5, h2⟩
          | ct γ5 => exact fun σ5 R5 => ⟨γ5, M4, W5, e25, G5, R5, h2⟩
          | bk γ5 => cases h2; exact k W5 H5 (e2.trans e25) G5
          | rt x => cases h2; exact k W5 H5 (e2.trans e25) G5
      | false =>
        rw [if_neg Bool.false_ne_true]; rw [if_neg Bool.false_ne_true] at h2
        cases h2
        exact k W3 H3 (e2.trans e3) G3 σ' (R2.up e3)
  · rw [dif_neg hex] at hh; cases hh
/-- the while's own equations -/
theorem whileN_mono {c : TF} {b : SF} : ∀ {n m : Nat} {γ : Ga} {M : Sto} {r : Out × Sto}, whileN c b n γ M = some r → n ≤ m → whileN c b m γ M = some r
  | 0, _, _, _, _, h, _ => by cases h
  | n + 1, 0, _, _, _, _, h => by omega
  | n + 1, m + 1, γ, M, r, h, hl => by
    obtain ⟨⟨b1, M1⟩, h1, h⟩ := bindE (show (c γ M).bind _ = _ from h)
    show (c γ M).bind _ = _
    rw [h1]
    show (if b1 = true then _ else _) = _
    cases b1 with
    | false => exact h
    | true =>
      rw [if_pos rfl]; rw [if_pos rfl] at h
      obtain ⟨⟨o, M2⟩, h2, h⟩ := bindE h
      rw [h2]
      cases o with
      | nx γ' => exact whileN_mono (n := n) (m := m) h (by omega)
      | ct γ' => exact whileN_mono (n := n) (m := m) h (by omega)
      | bk γ' => exact h
      | rt x => exact h
theorem while_is {c : TF} {b : SF} {n : Nat} {γ : Ga} {M : Sto} {r : Out × Sto} (h : whileN c b n γ M = some r) : sWhile c b γ M = some r := by
  unfold sWhile
  have hex : ∃ n, (whileN c b n γ M).isSome = true := ⟨n, by rw [h]; rfl⟩
  rw [dif_pos hex]
  have hs := hex.choose_spec
  cases q : whileN c b hex.choose γ M with
  | none => rw [q] at hs; cases hs
  | some r' =>
    rcases Nat.le_total n hex.choose with z | z
    · rw [whileN_mono h z] at q; exact q.symm ▸ rfl
    · rw [whileN_mono q z] at h; exact h
/-! ### comprehensions -/
theorem capRep {W : Wd} {γ : Ga} {σ : St} (R : RepS K W γ σ) : ∀ cap : List (Option Nat), RepS K W (capG cap γ) (capS cap σ)
  | [] => .nil
  | none :: r => .cons True.intro (capRep R r)
  | some j :: r => by
    refine .cons ?_ (capRep R r)
    show RepO K W ((γ[j]?).join) ((σ[j]?).join)
    cases e : γ[j]? with
    | none =>
      have : σ[j]? = none := by
        have hl := Paired.len R
        exact List.getElem?_eq_none_iff.mpr (by have := List.getElem?_eq_none_iff.mp e; omega)
      rw [this]
      exact True.intro
    | some x =>
      obtain ⟨y, hy, r'⟩ := Paired.get R e
      rw [hy]
      exact r'
theorem lcF_len {g : GF} {c : TF} {e : EF} : ∀ {xs : List CD} {γ : Ga} {M : Sto} {ys : List CD} {M' : Sto}, lcF g c e xs γ M = some (ys, M') → ys.length ≤ xs.length
  | [], _, _, _, _, h => by cases h; exact Nat.zero_le _
  | x :: xs, γ, M, ys, M', h => by
    obtain ⟨⟨γ1, M1⟩, h1, h⟩ := bindE (show (g x γ M).bind _ = _ from h)
    obtain ⟨⟨b, M2⟩, h2, h⟩ := bindE h
    cases b with
    | true =>
      rw [if_pos rfl] at h
      obtain ⟨⟨y, M3⟩, h3, h⟩ := bindE h
      obtain ⟨⟨zs, M4⟩, h4, h⟩ := bindE h
      cases h
      have := lcF_len h4
      simp only [List.length_cons]
      omega
    | false =>
      rw [if_neg Bool.false_ne_true] at h
      have := lcF_len h
      simp only [List.length_cons]
      omega
theorem lc_all {wi : TI} {cap : List (Option Nat)} {te : TE} {fe : EF} (i : SI K wi fa) (a : SG K tg hg) (c : STt K tt ft) (b : SE K te fe) {γ : Ga} {M : Sto} {xs : List CD} {M' : Sto} (hh : lcRun cap fa hg ft fe γ M = some (xs, M'))
    {W : Wd} {H : Hp} {σ : St} {Q : VK} (G : Good K W M H) (R : RepS K W γ σ) (k : ∀ vs W' H', W.Ext W' → Good K W' M' H' → RepVs K W' xs vs → ∀ p, H' p = none → Q (.ref p) (upd H' p (.lst vs))) : tLc cap wi tg tt te σ H Q := by
  obtain ⟨⟨ys, M1⟩, h1, hh⟩ := bindE hh
  have hh : (if ys.length ≤ sizeLine then lcF hg ft fe ys (capG cap γ) M1 else none) = some (xs, M') := hh
  by_cases hl : ys.length ≤ sizeLine
  · rw [if_pos hl] at hh
    refine i _ _ _ _ h1 W H σ _ G R fun J W1 H1 e1 G1 gv => ?_
    refine ⟨fun j m acc σ' H' => ∃ γ' M2 W2 pre suf, j ≤ ys.length ∧ m = ys.length - j ∧ acc.length ≤ j ∧ W1.Ext W2 ∧ Good K W2 M2 H' ∧ RepS K W2 γ' σ' ∧ RepVs K W2 pre acc ∧ pre ++ suf = xs ∧ lcF hg ft fe (ys.drop j) γ' M2 = some (suf, M'),
      ⟨_, capG cap γ, M1, W1, [], xs, Nat.zero_le _, rfl, Nat.zero_le _, .refl _, G1, capRep (R.up e1) cap, .nil, rfl, hh⟩, ?_⟩
    rintro j m acc σ' H' ⟨γ', M2, W2, pre, suf, hj, rfl, hacc, e2, G2, R2, rp, hx, h2⟩
    obtain ⟨gv1, gv2⟩ := gv W2 M2 H' e2 G2
    by_cases hlt : j < ys.length
    · obtain ⟨go, yl⟩ := gv1 j ys[j] (List.getElem?_eq_getElem hlt)
      rw [List.drop_eq_getElem_cons hlt] at h2
      refine .inr ⟨go, by omega, fun acc3 σ3 H3 => ∃ γ3 M3 W3 pre3 suf3, acc3.length ≤ j + 1 ∧ W2.Ext W3 ∧ Good K W3 M3 H3 ∧ RepS K W3 γ3 σ3 ∧ RepVs K W3 pre3 acc3 ∧ pre3 ++ suf3 = xs ∧ lcF hg ft fe (ys.drop (j + 1)) γ3 M3 = some (suf3, M'), ?_, fun y H3 hy => ?_⟩
      · rintro acc3 σ3 H3 ⟨γ3, M3, W3, pre3, suf3, hl3, e3, G3, R3, rp3, hx3, h3⟩
        exact ⟨_, by omega, γ3, M3, W3, pre3, suf3, hlt, rfl, hl3, e2.trans e3, G3, R3, rp3, hx3, h3⟩
      · obtain ⟨rfl, ry⟩ := yl y H3 hy
        obtain ⟨⟨γ4, M4⟩, h4, h2⟩ := bindE (show (hg ys[j] γ' M2).bind _ = _ from h2)
        obtain ⟨⟨b5, M5⟩, h5, h2⟩ := bindE h2
        refine a _ _ _ _ _ h4 W2 _ σ' y _ G2 R2 ry fun σ4 W4 H4 e4 G4 R4 => ?_
        refine c _ _ _ _ h5 W4 H4 σ4 _ G4 R4 fun W5 H5 e5 G5 => ?_
        have e25 := e4.trans e5
        cases b5 with
        | true =>
          rw [if_pos rfl] at h2
          obtain ⟨⟨z, M6⟩, h6, h2⟩ := bindE h2
          obtain ⟨⟨zs, M7⟩, h7, h2⟩ := bindE h2
          cases h2
          refine .inl ⟨rfl, b _ _ _ _ h6 W5 H5 σ4 _ G5 (R4.up e5) fun v W6 H6 e6 G6 r6 => ?_⟩
          refine ⟨γ4, M6, W6, pre ++ [z], zs, by rw [List.length_append]; simp only [List.length_singleton]; omega, e25.trans e6, G6, R4.up (e5.trans e6), Paired.app (RepVs.up rp (e25.trans e6)) (.cons r6 .nil), by rw [← hx, List.append_assoc]; rfl, h7⟩
        | false =>
          rw [if_neg Bool.false_ne_true] at h2
          exact .inr ⟨rfl, γ4, M5, W5, pre, suf, by omega, e25, G5, R4.up e5, RepVs.up rp e25, hx, h2⟩
    · have e : j = ys.length := by omega
      subst e
      rw [List.drop_length] at h2
      cases h2
      rw [List.append_nil] at hx
      subst hx
      exact .inl ⟨gv2, k acc W2 H' (e1.trans e2) G2 rp⟩
  · rw [if_neg hl] at hh; cases hh
theorem lcRun_len {cap : List (Option Nat)} {fa : AF} {hg : GF} {ft : TF} {fe : EF} {γ : Ga} {M : Sto} {xs : List CD} {M' : Sto} (hh : lcRun cap fa hg ft fe γ M = some (xs, M')) : xs.length ≤ sizeLine := by
  obtain ⟨⟨ys, M1⟩, h1, hh⟩ := bindE hh
  have hh : (if ys.length ≤ sizeLine then lcF hg ft fe ys (capG cap γ) M1 else none) = some (xs, M') := hh
  by_cases hl : ys.length ≤ sizeLine
  · rw [if_pos hl] at hh
    exact Nat.le_trans (lcF_len hh) hl
  · rw [if_neg hl] at hh; cases hh
theorem se_lc {wi : TI} {cap : List (Option Nat)} {te : TE} {fe : EF} (i : SI K wi fa) (a : SG K tg hg) (c : STt K tt ft) (b : SE K te fe) : SE K (tLc cap wi tg tt te) (fLc cap fa hg ft fe) := by
  intro γ M x M' hh W H σ Q G R k
  obtain ⟨⟨ys, M1⟩, h1, hh⟩ := bindE hh
  obtain ⟨ds, h2, hh⟩ := bindE hh
  by_cases hl : ds.length ≤ sizeLine
  · rw [if_pos hl] at hh
    cases hh
    refine lc_all i a c b h1 G R fun vs W1 H1 e1 G1 r1 p hp => ?_
    obtain ⟨e2, G2⟩ := G1.lay (o := .lst vs) hp
    exact k _ _ _ (e1.trans e2) G2 ⟨p, vs, rfl, SqL.of upd_same, RepAll.same e2.ff _ _ (repAll_of h2 r1)⟩
  · rw [if_neg hl] at hh; cases hh
theorem se_lcN {wi : TI} {cap : List (Option Nat)} {te : TE} {fe : EF} (i : SI K wi fa) (a : SG K tg hg) (c : STt K tt ft) (b : SE K te fe) : SE K (tLc cap wi tg tt te) (fLcN cap fa hg ft fe) := by
  intro γ M x M' hh W H σ Q G R k
  obtain ⟨⟨ys, M1⟩, h1, hh⟩ := bindE hh
  have hh : (if ys.length ≤ sizeLine then some (CD.c M1.length, M1 ++ [Cell.lst ys]) else none) = some (x, M') := hh
  rw [if_pos (lcRun_len h1)] at hh
  cases hh
  refine lc_all i a c b h1 G R fun vs W1 H1 e1 G1 r1 p hp => ?_
  exact k _ _ _ (e1.trans (W1.ext_more p)) (G1.new hp (c := .lst ys) (o := .lst vs) r1) G1.newV
theorem st_yes : STt K tYes gYes := by
  intro γ M x M' hh W H σ Q G R k
  cases hh
  exact k W H (.refl _) G
/-! ### a def -/
theorem RepVs.some {W : Wd} : ∀ {xs : List CD} {vs : List V}, RepVs K W xs vs → RepS K W (xs.map some) (vs.map some)
  | _, _, .nil => .nil
  | _, _, .cons r t => .cons r (RepVs.some t)
theorem rep_none {W : Wd} : ∀ n : Nat, RepS K W (List.replicate n none) (List.replicate n none)
  | 0 => .nil
  | n + 1 => .cons True.intro (rep_none n)
theorem Def.okM {P : Program} {w : World} {mg : Str → Option Value} {base : Heap} {x : Str} {st : Stmt} {N ps : List Str} {k : Nat} {b : SF} (D : Def K mg x st) (S : FnScope N ps (defScope st))
    (hb : ∀ (kV doc pm : Value) (an : Option Addr) (cdv ct : Value) (us : List Value), us.length = ps.length → bindArgs (PySem.W.fnOf x x (defArgs st) (defBody st) (defScope st) .none kV doc pm an cdv ct) ⟨us, []⟩ = pure (ps.zip us))
    (hbody : ∀ (f : Addr) (cdv : Value) (A : Around) (outer : List Env) (s : Shared) (H : Hp) (E : XK), Room k (A.deeper (envOfC x (defScope st) s.heap.objs.size f cdv)) →
      ∃ t, PSs (cxOf CX0 P w K mg base N x (defScope st) f cdv A outer s H E).nox (defBody st) t ∧ SS K t b) : Callee P w K mg base (k + 1) x ps (spM K (fnF ps.length N.length b)) := by
  have len : ∀ vs H Q E, spM K (fnF ps.length N.length b) vs H Q E → vs.length = ps.length := fun vs H Q E h => by
    obtain ⟨xs, M, W, y, M', G, R, hf, _⟩ := h
    by_cases hl : xs.length = ps.length
    · rw [← Paired.len R]; exact hl
    · unfold fnF at hf
      rw [if_neg hl] at hf; cases hf
  refine D.ok S hb len fun f cdv A outer s H vs Q E hr h => ?_
  obtain ⟨t, hP, hS⟩ := hbody f cdv A outer s H E hr
  refine ⟨t, hP, ?_⟩
  obtain ⟨xs, M, W, y, M', G, R, hf, k⟩ := h
  by_cases hl : xs.length = ps.length
  · unfold fnF at hf
    rw [if_pos hl] at hf
    obtain ⟨⟨o, M1⟩, h1, hf⟩ := bindE hf
    have hR : RepS K W (xs.map some ++ List.replicate (N.length - xs.length) none) (start N vs) := by
      unfold start
      rw [← Paired.len R]
      exact Paired.app (RepVs.some R) (rep_none _)
    refine hS _ _ _ _ h1 W H _ _ G hR fun W1 H1 e1 G1 => ?_
    cases o with
    | rt x => cases hf; exact fun v r => k v W1 H1 e1 G1 r
    | nx γ => cases hf; exact fun σ r => k .non W1 H1 e1 G1 rfl
    | bk γ => cases hf
    | ct γ => cases hf
  · unfold fnF at hf
    rw [if_neg hl] at hf; cases hf
end
end L2

end

section
set_option Elab.async false
set_option linter.all false
set_option maxRecDepth 100000
set_option maxHeartbeats 4000000
namespace L2
open PySem PySem.Spec PyProof.Rows
/-! # primitives -/
/-- an operation of the text and its mirror -/
structure B2 (X : Cx) (o : Value → Value → Sem Value) (h : F2) : Prop where
  ex : ∃ r, OpR X o r ∧ P2 X.K r h
structure BN (X : Cx) (f : Value) (h : FN) : Prop where
  ex : ∃ r, CallR X f r ∧ PN X.K r h
structure BI (X : Cx) (h : F2) : Prop where
  ex : ∃ r, IxR X r ∧ P2 X.K r h
def orF2 (h h' : F2) : F2 := fun x y M => match h x y M with
  | some r => some r
  | none => h' x y M
theorem B2.or {X : Cx} {o : Value → Value → Sem Value} {h h' : F2} (a : B2 X o h) (b : B2 X o h') : B2 X o (orF2 h h') := by
  obtain ⟨r, a1, a2⟩ := a.ex
  obtain ⟨r', b1, b2⟩ := b.ex
  refine ⟨_, a1.or b1, fun x y M z M' hh W H v u Q G rv ru k => ?_⟩
  unfold orF2 at hh
  cases e : h x y M with
  | some q =>
    rw [e] at hh
    cases hh
    exact .inl (a2 _ _ _ _ _ e W H v u Q G rv ru k)
  | none =>
    rw [e] at hh
    exact .inr (b2 _ _ _ _ _ hh W H v u Q G rv ru k)
/-! ### ints -/
def pI (g : Int → Int → Option PyData) : F2 := fun x y M => match x, y with
  | .d (.int i), .d (.int j) => (g i j).bind fun z => some (.d z, M)
  | _, _ => none
theorem pI_of {g : Int → Int → Option PyData} {x y : CD} {M : Sto} {z : CD} {M' : Sto} (h : pI g x y M = some (z, M')) : ∃ i j w, x = .d (.int i) ∧ y = .d (.int j) ∧ g i j = some w ∧ z = .d w ∧ M' = M := by
  unfold pI at h
  split at h
  · rename_i i j
    obtain ⟨w, h1, h⟩ := bindE h
    cases h
    exact ⟨i, j, w, rfl, rfl, h1, rfl, rfl⟩
  · cases h
section
variable {X : Cx} {K : PySem.W.Frag}
theorem p2_I0 {g : Int → Int → Int} : P2 K (rI0 fun i j => .int (g i j)) (pI fun i j => some (.int (g i j))) := by
  intro x y M z M' h W H v u Q G rx ry k
  obtain ⟨i, j, w, rfl, rfl, hw, rfl, rfl⟩ := pI_of h
  cases hw
  exact ⟨i, j, rx, ry, k _ W H (.refl _) G rfl⟩
theorem p2_B0 {g : Int → Int → Bool} : P2 K (rI0 fun i j => .bl (g i j)) (pI fun i j => some (.bool (g i j))) := by
  intro x y M z M' h W H v u Q G rx ry k
  obtain ⟨i, j, w, rfl, rfl, hw, rfl, rfl⟩ := pI_of h
  cases hw
  exact ⟨i, j, rx, ry, k _ W H (.refl _) G rfl⟩
def ifS (c : Bool) (x : PyData) : Option PyData := if c = true then some x else none
theorem ifS_of {c : Bool} {x y : PyData} (h : ifS c x = some y) : c = true ∧ y = x := by
  unfold ifS at h
  cases c with
  | true => rw [if_pos rfl] at h; cases h; exact ⟨rfl, rfl⟩
  | false => rw [if_neg Bool.false_ne_true] at h; cases h
theorem p2_I {C : Int → Int → Prop} {c : Int → Int → Bool} {g : Int → Int → Int} (hc : ∀ i j, c i j = true → C i j) : P2 K (rI C fun i j => .int (g i j)) (pI fun i j => ifS (c i j) (.int (g i j))) := by
  intro x y M z M' h W H v u Q G rx ry k
  obtain ⟨i, j, w, rfl, rfl, hw, rfl, rfl⟩ := pI_of h
  obtain ⟨h1, rfl⟩ := ifS_of hw
  exact ⟨i, j, rx, ry, hc i j h1, k _ W H (.refl _) G rfl⟩
def addI : F2 := pI fun i j => some (.int (i + j))
def subI : F2 := pI fun i j => some (.int (i - j))
def mulOk (i j : Int) : Bool := decide (i.natAbs < 2 ^ 64) || decide (j.natAbs < 2 ^ 64) || (decide (i.natAbs < wideN) && decide (j.natAbs < wideN))
def mulI : F2 := pI fun i j => ifS (mulOk i j) (.int (i * j))
def divOk (_ j : Int) : Bool := decide (0 < j) && decide (j.natAbs < wideN)
def fdivI : F2 := pI fun i j => ifS (divOk i j) (.int (i / j))
def modOk (_ j : Int) : Bool := decide (0 < j)
def modI : F2 := pI fun i j => ifS (modOk i j) (.int (i % j))
def powOk (i j : Int) : Bool := decide (0 ≤ j) && decide (j ≤ 1000000) && decide (i.natAbs < 2 ^ 64)
def powI : F2 := pI fun i j => ifS (powOk i j) (.int (i ^ j.toNat))
theorem mulOk_of {i j : Int} (h : mulOk i j = true) : CMulA i j := by
  unfold mulOk at h
  simp only [Bool.or_eq_true, Bool.and_eq_true, decide_eq_true_eq] at h
  rcases h with (h | h) | h
  · exact .inl (.inl ⟨by omega, by omega⟩)
  · exact .inl (.inr ⟨by omega, by omega⟩)
  · exact .inr h
theorem b_addI : B2 X (binaryOp .Add) addI := ⟨_, op_add, p2_I0⟩
theorem b_sub : B2 X (binaryOp .Sub) subI := ⟨_, op_sub, p2_I0⟩
theorem b_mulI : B2 X (binaryOp .Mult) mulI := ⟨_, op_mulA, p2_I fun _ _ h => mulOk_of h⟩
theorem b_fdiv : B2 X (binaryOp .FloorDiv) fdivI := ⟨_, op_fdivA, p2_I fun i j h => by
  unfold divOk at h
  rw [Bool.and_eq_true] at h
  exact ⟨of_decide_eq_true h.1, of_decide_eq_true (p := j.natAbs < wideN) h.2⟩⟩
theorem b_mod : B2 X (binaryOp .Mod) modI := ⟨_, op_mod, p2_I fun i j h => of_decide_eq_true h⟩
theorem b_pow : B2 X (binaryOp .Pow) powI := ⟨_, op_pow, p2_I fun i j h => by
  unfold powOk at h
  rw [Bool.and_eq_true, Bool.and_eq_true] at h
  exact ⟨of_decide_eq_true h.1.1, of_decide_eq_true h.1.2, of_decide_eq_true h.2⟩⟩
def ltI : F2 := pI fun i j => some (.bool (decide (i < j)))
def leI : F2 := pI fun i j => some (.bool (decide (i ≤ j)))
def gtI : F2 := pI fun i j => some (.bool (decide (j < i)))
def geI : F2 := pI fun i j => some (.bool (decide (j ≤ i)))
theorem b_ltI : B2 X (compareOp .Lt) ltI := ⟨_, op_lt, p2_B0⟩
theorem b_le : B2 X (compareOp .LtE) leI := ⟨_, op_le, p2_B0⟩
theorem b_gt : B2 X (compareOp .Gt) gtI := ⟨_, op_gt, p2_B0⟩
theorem b_ge : B2 X (compareOp .GtE) geI := ⟨_, op_ge, p2_B0⟩
/-! ### data -/
def eqD (neg : Bool) : F2 := fun x y M => match x, y with
  | .d a, .d b => if (SeqAt.shaped a && SeqAt.shaped b) = true then some (.d (.bool (if neg then !PyData.eqv a b else PyData.eqv a b)), M) else none
  | _, _ => none
theorem p2_eq {neg : Bool} : P2 K (rEqD K neg) (eqD neg) := by
  intro x y M z M' h W H v u Q G rx ry k
  unfold eqD at h
  split at h
  · rename_i a b
    by_cases hs : (SeqAt.shaped a && SeqAt.shaped b) = true
    · rw [if_pos hs] at h
      cases h
      rw [Bool.and_eq_true] at hs
      exact ⟨a, b, Rep.same G.fh _ _ rx, Rep.same G.fh _ _ ry, hs.1, hs.2, k _ W H (.refl _) G rfl⟩
    · rw [if_neg hs] at h; cases h
  · cases h
theorem b_eq (hu : X.A.units + 64 < cLine) : B2 X (compareOp .Eq) (eqD false) := ⟨_, op_eqD hu, p2_eq⟩
theorem b_ne (hu : X.A.units + 64 < cLine) : B2 X (compareOp .NotEq) (eqD true) := ⟨_, op_neD hu, p2_eq⟩
def inD (neg : Bool) : F2 := fun x y M => match x, y with
  | .d a, .d b => (itemsD b).bind fun ds => if (SeqAt.shaped a && ds.all SeqAt.shaped) = true then some (.d (.bool (if neg then !ds.any fun d => PyData.eqv d a else ds.any fun d => PyData.eqv d a)), M) else none
  | _, _ => none
theorem p2_in {neg : Bool} : P2 K (rInD K neg) (inD neg) := by
  intro x y M z M' h W H v u Q G rx ry k
  unfold inD at h
  split at h
  · rename_i a b
    obtain ⟨ds, h1, h⟩ := bindE h
    by_cases hs : (SeqAt.shaped a && ds.all SeqAt.shaped) = true
    · rw [if_pos hs] at h
      cases h
      rw [Bool.and_eq_true] at hs
      obtain ⟨p, vs, rfl, hq, hr⟩ := rep_seq (Rep.same G.fh _ _ ry) h1
      exact ⟨a, ds, p, vs, Rep.same G.fh _ _ rx, rfl, hq, hr, hs.1, hs.2, k _ W H (.refl _) G rfl⟩
    · rw [if_neg hs] at h; cases h
  · cases h
theorem b_in (hu : X.A.in1.units + 64 < cLine) : B2 X (compareOp .In) (inD false) := ⟨_, op_inD hu, p2_in⟩
theorem b_notIn (hu : X.A.in1.units + 64 < cLine) : B2 X (compareOp .NotIn) (inD true) := ⟨_, op_notInD hu, p2_in⟩
/-! ### items and lengths -/
theorem RepAll.nth {H : Hp} {ds : List PyData} {vs : List V} {i : Nat} {d : PyData} (h : RepAll K H ds vs) (e : ds[i]? = some d) : ∃ v, vs[i]? = some v ∧ Rep K H d v := by
  have hlt : i < vs.length := by rw [← h.length]; exact (List.getElem?_eq_some_iff.mp e).1
  have hv : vs[i]? = some vs[i] := List.getElem?_eq_getElem hlt
  obtain ⟨d', hd', r⟩ := h.get hv
  rw [e] at hd'
  cases hd'
  exact ⟨_, hv, r⟩
theorem atI_of {α : Type} {xs : List α} {i : Int} {x : α} (h : atI xs i = some x) : ∃ j, ixN xs.length i = some j ∧ xs[j]? = some x := by
  unfold atI at h
  exact bindE h
theorem atI_mk {α : Type} {xs : List α} {i : Int} {j : Nat} {x : α} (h : ixN xs.length i = some j) (e : xs[j]? = some x) : atI xs i = some x := by
  unfold atI
  rw [h]
  exact e
def ixF : F2 := fun x y M => match x, y with
  | .d a, .d (.int n) => (itemsD a).bind fun ds => (atI ds n).bind fun e => some (.d e, M)
  | .c i, .d (.int n) => match M[i]? with
    | some (.lst xs) => (atI xs n).bind fun e => some (e, M)
    | _ => none
  | _, _ => none
theorem Good.lstAt {W : Wd} {M : Sto} {H : Hp} {i : Nat} {xs : List CD} (G : Good K W M H) (h : M[i]? = some (.lst xs)) : ∃ vs, H (W.α i) = some (.lst vs) ∧ RepVs K W xs vs := by
  obtain ⟨_, o, h2, h3⟩ := G.cs i _ h (by intro z; cases z)
  cases o with
  | lst vs => exact ⟨vs, h2, h3⟩
  | _ => exact False.elim h3
theorem p2_ix : P2 K (rIx K) ixF := by
  intro x y M z M' h W H v u Q G rx ry k
  unfold ixF at h
  split at h
  · rename_i a n
    obtain ⟨ds, h1, h⟩ := bindE h
    obtain ⟨e, h2, h⟩ := bindE h
    cases h
    obtain ⟨p, vs, rfl, hq, hr⟩ := rep_seq (Rep.same G.fh _ _ rx) h1
    obtain ⟨j, hj, he⟩ := atI_of h2
    obtain ⟨w, hw, rw'⟩ := hr.nth he
    have hlen := hr.length
    have hat : atI vs n = some w := atI_mk (by rw [← hlen]; exact hj) hw
    -- the item is data of the frozen part
    obtain ⟨p', vs', e', hq', hr'⟩ := rep_seq (show Rep K W.F a (.ref p) from rx) h1
    cases e'
    have same : ∀ w', vs'[j]? = some w' → Rep K W.F e w' := fun w' hw' => by
      obtain ⟨w2, h3, h4⟩ := hr'.nth he
      rw [hw'] at h3
      cases h3
      exact h4
    obtain ⟨w', hw', r'⟩ := hr'.nth he
    have hat' : atI vs' n = some w' := atI_mk (by rw [← hr'.length]; exact hj) hw'
    rcases hq' with hq' | hq'
    · exact .inl ⟨p, vs', n, w', rfl, ry, G.fh.seq hq', hat', k _ W H (.refl _) G r'⟩
    · exact .inr (.inl ⟨p, vs', n, w', rfl, ry, G.fh.seqT hq', hat', k _ W H (.refl _) G r'⟩)
  · rename_i i n
    split at h
    · rename_i xs hx
      obtain ⟨e, h2, h⟩ := bindE h
      cases h
      obtain ⟨vs, hv, hr⟩ := G.lstAt hx
      obtain ⟨j, hj, he⟩ := atI_of h2
      obtain ⟨w, hw, r'⟩ := Paired.get hr he
      have hat : atI vs n = some w := atI_mk (by rw [← Paired.len hr]; exact hj) hw
      rw [show v = .ref (W.α i) from rx.2]
      exact .inl ⟨_, vs, n, w, rfl, ry, SqL.of hv, hat, k _ W H (.refl _) G r'⟩
    · cases h
  · cases h
theorem b_ix : BI X ixF := ⟨_, ix_seq, p2_ix⟩
def lenF : FN := fun xs M => match xs with
  | [.d a] => (itemsD a).bind fun ds => some (.d (.int ds.length), M)
  | [.c i] => match M[i]? with
    | some (.lst ys) => some (.d (.int ys.length), M)
    | _ => none
  | _ => none
theorem pn_len : PN K (fun xs H Q => ∃ p ys, xs = [.ref p] ∧ (SqL K H p ys ∨ SqT K H p ys) ∧ Q (.int ys.length) H) lenF := by
  intro xs M z M' h W H vs Q G r k
  unfold lenF at h
  split at h
  · rename_i a
    obtain ⟨ds, h1, h⟩ := bindE h
    cases h
    rcases r with _ | ⟨r1, _ | _⟩
    obtain ⟨p, us, rfl, hq, hr⟩ := rep_seq (Rep.same G.fh _ _ r1) h1
    refine ⟨p, us, rfl, hq, ?_⟩
    rw [← hr.length]
    exact k _ W H (.refl _) G rfl
  · rename_i i
    split at h
    · rename_i ys hy
      cases h
      rcases r with _ | ⟨r1, _ | _⟩
      obtain ⟨us, hv, hr⟩ := G.lstAt hy
      rw [r1.2]
      refine ⟨_, us, rfl, .inl (SqL.of hv), ?_⟩
      rw [← Paired.len hr]
      exact k _ W H (.refl _) G rfl
    · cases h
  · cases h
theorem b_len : BN X (.builtin "len") lenF := ⟨_, call_len_seq, pn_len⟩
/-- list(x) as data -/
def listF : FN := fun xs M => match xs with
  | [.d a] => (itemsD a).bind fun ds => some (.d (.list ds), M)
  | [.c i] => match M[i]? with
    | some (.lst ys) => (allD ys).bind fun ds => some (.d (.list ds), M)
    | _ => none
  | _ => none
theorem pn_list : PN K (fun xs H Q => ∃ p ys, xs = [.ref p] ∧ (SqL K H p ys ∨ SqT K H p ys) ∧ ∀ l, H l = none → Q (.ref l) (upd H l (.lst ys))) listF := by
  intro xs M z M' h W H vs Q G r k
  unfold listF at h
  split at h
  · rename_i a
    obtain ⟨ds, h1, h⟩ := bindE h
    cases h
    rcases r with _ | ⟨r1, _ | _⟩
    obtain ⟨p, us, rfl, hq, hr⟩ := rep_seq (show Rep K W.F a _ from r1) h1
    refine ⟨p, us, rfl, hq.imp (fun z => G.fh.seq z) (fun z => G.fh.seqT z), fun l hl => ?_⟩
    obtain ⟨e2, G2⟩ := G.lay (o := .lst us) hl
    exact k _ _ _ e2 G2 ⟨l, us, rfl, SqL.of upd_same, RepAll.same e2.ff _ _ hr⟩
  · rename_i i
    split at h
    · rename_i ys hy
      obtain ⟨ds, h1, h⟩ := bindE h
      cases h
      rcases r with _ | ⟨r1, _ | _⟩
      obtain ⟨us, hv, hr⟩ := G.lstAt hy
      rw [r1.2]
      refine ⟨_, us, rfl, .inl (SqL.of hv), fun l hl => ?_⟩
      obtain ⟨e2, G2⟩ := G.lay (o := .lst us) hl
      exact k _ _ _ e2 G2 ⟨l, us, rfl, SqL.of upd_same, RepAll.same e2.ff _ _ (repAll_of h1 hr)⟩
    · cases h
  · cases h
theorem b_list : BN X (.type "list") listF := ⟨_, call_list_of, pn_list⟩
/-- tuple(x) -/
def tupleF : FN := fun xs M => match xs with
  | [.d (.list ds)] => some (.d (.tuple ds), M)
  | [.d (.tuple ds)] => some (.d (.tuple ds), M)
  | [.c i] => match M[i]? with
    | some (.lst ys) => (allD ys).bind fun ds => some (.d (.tuple ds), M)
    | _ => none
  | _ => none
theorem pn_tuple : PN K (fun xs H Q => ∃ p ys, xs = [.ref p] ∧ ((SqL K H p ys ∧ ∀ l, H l = none → Q (.ref l) (upd H l (.tup ys))) ∨ (SqT K H p ys ∧ Q (.ref p) H))) tupleF := by
  intro xs M z M' h W H vs Q G r k
  unfold tupleF at h
  split at h
  · rename_i ds
    cases h
    rcases r with _ | ⟨r1, _ | _⟩
    obtain ⟨p, us, rfl, hq, hr⟩ := (show ∃ a us, _ = V.ref a ∧ SqL K W.F a us ∧ RepAll K W.F ds us from r1)
    refine ⟨p, us, rfl, .inl ⟨G.fh.seq hq, fun l hl => ?_⟩⟩
    obtain ⟨e2, G2⟩ := G.lay (o := .tup us) hl
    exact k _ _ _ e2 G2 ⟨l, us, rfl, SqT.of upd_same, RepAll.same e2.ff _ _ hr⟩
  · rename_i ds
    cases h
    rcases r with _ | ⟨r1, _ | _⟩
    obtain ⟨p, us, rfl, hq, hr⟩ := (show ∃ a us, _ = V.ref a ∧ SqT K W.F a us ∧ RepAll K W.F ds us from r1)
    exact ⟨p, us, rfl, .inr ⟨G.fh.seqT hq, k _ W H (.refl _) G ⟨p, us, rfl, hq, hr⟩⟩⟩
  · rename_i i
    split at h
    · rename_i ys hy
      obtain ⟨ds, h1, h⟩ := bindE h
      cases h
      rcases r with _ | ⟨r1, _ | _⟩
      obtain ⟨us, hv, hr⟩ := G.lstAt hy
      rw [r1.2]
      refine ⟨_, us, rfl, .inl ⟨SqL.of hv, fun l hl => ?_⟩⟩
      obtain ⟨e2, G2⟩ := G.lay (o := .tup us) hl
      exact k _ _ _ e2 G2 ⟨l, us, rfl, SqT.of upd_same, RepAll.same e2.ff _ _ (repAll_of h1 hr)⟩
    · cases h
  · cases h
theorem b_tuple : BN X (.type "tuple") tupleF := ⟨_, call_tuple_of, pn_tuple⟩
/-! ### isinstance -/
def fIsi (T : String) (f : EF) : EF := fun γ M => (f γ M).bind fun r => match r.1 with
  | .d a => some (.d (.bool (isiD T a)), r.2)
  | _ => none
theorem se_isi {T : String} {ta : TE} {f : EF} (hT : T ∈ asked) (a : SE K ta f) : SE K (tCB (rIsi K) (tCons ta (tCons (tC (.ty T)) tNil))) (fIsi T f) := by
  intro γ M x M' hh W H σ Q G R k
  obtain ⟨⟨y, M1⟩, h1, hh⟩ := bindE hh
  cases y with
  | c _ => cases hh
  | d y =>
    cases hh
    refine a _ _ _ _ h1 W H σ _ G R fun v W1 H1 e1 G1 r1 => ?_
    exact ⟨v, T, y, rfl, hT, Rep.same G1.fh _ _ r1, k _ W1 H1 e1 G1 rfl⟩
def fIsi2 (T U : String) (f : EF) : EF := fun γ M => (f γ M).bind fun r => match r.1 with
  | .d a => some (.d (.bool (isiD T a || isiD U a)), r.2)
  | _ => none
theorem se_isi2 {T U : String} {ta : TE} {f : EF} (hT : T ∈ asked) (hU : U ∈ asked) (a : SE K ta f) : SE K (tCB (rIsi2 K) (tCons ta (tCons (tTup (tCons (tC (.ty T)) (tCons (tC (.ty U)) tNil))) tNil))) (fIsi2 T U f) := by
  intro γ M x M' hh W H σ Q G R k
  obtain ⟨⟨y, M1⟩, h1, hh⟩ := bindE hh
  cases y with
  | c _ => cases hh
  | d y =>
    cases hh
    refine a _ _ _ _ h1 W H σ _ G R fun v W1 H1 e1 G1 r1 => ?_
    refine ⟨by show 2 ≤ sizeLine; decide, fun p hp => ?_⟩
    obtain ⟨e2, G2⟩ := G1.lay (o := .tup [.ty T, .ty U]) hp
    refine ⟨v, p, [T, U], y, rfl, upd_same, fun S hS => ?_, Rep.same (e2.ff.trans G2.fh) _ _ r1, ?_⟩
    · rcases List.mem_cons.mp hS with rfl | hS
      · exact hT
      · rw [List.mem_singleton.mp hS]; exact hU
    · have e : ([T, U].any fun T => isiD T y) = (isiD T y || isiD U y) := by simp
      rw [e]
      exact k _ _ _ (e1.trans e2) G2 rfl
/-! ### truth -/
def truF (M : Sto) : CD → Option Bool
  | .d .none => some false
  | .d (.bool b) => some b
  | .d (.int i) => some (i != 0)
  | .d (.list ds) => some (!ds.isEmpty)
  | .d (.tuple ds) => some (!ds.isEmpty)
  | .c i => match M[i]? with
    | some (.lst xs) => some (!xs.isEmpty)
    | some (.dk kvs) => some (!kvs.isEmpty)
    | _ => none
  | _ => none
def gTru (f : EF) : TF := fun γ M => (f γ M).bind fun r => (truF r.2 r.1).bind fun b => some (b, r.2)
theorem isEmpty_len {α β : Type} {xs : List α} {ys : List β} (h : xs.length = ys.length) : xs.isEmpty = ys.isEmpty := by
  cases xs <;> cases ys <;> simp at h ⊢
theorem st_tru {ta : TE} {f : EF} (a : SE K ta f) : STt K (fun σ H Q => ta σ H fun x H' => ∃ k, TruV K x H' k ∧ Q k H') (gTru f) := by
  intro γ M b M' hh W H σ Q G R k
  obtain ⟨⟨y, M1⟩, h1, hh⟩ := bindE hh
  obtain ⟨b1, h2, hh⟩ := bindE hh
  cases hh
  refine a _ _ _ _ h1 W H σ _ G R fun v W1 H1 e1 G1 r1 => ⟨_, ?_, k W1 H1 e1 G1⟩
  cases y with
  | d y =>
    cases y with
    | none => cases h2; rw [show v = .non from r1]; rfl
    | bool c => cases h2; rw [show v = .bl _ from r1]; rfl
    | int i => cases h2; rw [show v = .int _ from r1]; rfl
    | str x => cases h2
    | list ds =>
      cases h2
      obtain ⟨p, us, rfl, hq, hr⟩ := (show ∃ a us, _ = V.ref a ∧ SqL K W1.F a us ∧ RepAll K W1.F ds us from r1)
      exact .inl ⟨us, G1.fh.seq hq, by rw [isEmpty_len hr.length]⟩
    | tuple ds =>
      cases h2
      obtain ⟨p, us, rfl, hq, hr⟩ := (show ∃ a us, _ = V.ref a ∧ SqT K W1.F a us ∧ RepAll K W1.F ds us from r1)
      exact .inr (.inl ⟨us, G1.fh.seqT hq, by rw [isEmpty_len hr.length]⟩)
    | dict kvs => cases h2
  | c i =>
    rw [r1.2]
    unfold truF at h2
    dsimp only at h2
    split at h2
    · rename_i xs hx
      cases h2
      obtain ⟨us, hv, hr⟩ := G1.lstAt hx
      exact .inl ⟨us, SqL.of hv, by rw [isEmpty_len (Paired.len hr)]⟩
    · rename_i kvs hx
      cases h2
      obtain ⟨_, o, g2, g3⟩ := G1.cs i _ hx (by intro z; cases z)
      cases o with
      | dK us => exact .inr (.inr ⟨us, g2, by rw [isEmpty_len (Paired.len g3)]⟩)
      | _ => exact False.elim g3
    · cases h2
/-! ### all, any of a list of truths -/
def boolsOf : List PyData → Option (List Bool)
  | [] => some []
  | .bool b :: r => (boolsOf r).bind fun bs => some (b :: bs)
  | _ :: _ => none
def allF : FN := fun xs M => match xs with
  | [.d (.list ds)] => (boolsOf ds).bind fun bs => some (.d (.bool (bs.all id)), M)
  | _ => none
def anyF : FN := fun xs M => match xs with
  | [.d (.list ds)] => (boolsOf ds).bind fun bs => some (.d (.bool (bs.any id)), M)
  | _ => none
theorem bools_rep {H : Hp} : ∀ {ds : List PyData} {bs : List Bool} {vs : List V}, boolsOf ds = some bs → RepAll K H ds vs → vs = bs.map V.bl
  | [], bs, vs, e, h => by cases e; exact h
  | .bool b :: r, bs, vs, e, h => by
    obtain ⟨cs, h1, e⟩ := bindE (show (boolsOf r).bind _ = _ from e)
    cases e
    obtain ⟨v, us, rfl, h2, h3⟩ := h
    rw [show v = V.bl b from h2, bools_rep h1 h3]
    rfl
  | .none :: _, _, _, e, _ => by cases e
  | .int _ :: _, _, _, e, _ => by cases e
  | .str _ :: _, _, _, e, _ => by cases e
  | .list _ :: _, _, _, e, _ => by cases e
  | .tuple _ :: _, _, _, e, _ => by cases e
  | .dict _ :: _, _, _, e, _ => by cases e
theorem call_allS (hc : X.calm = true) : CallR X (.builtin "all") (fun xs H Q => ∃ (p : Addr) (bs : List Bool), xs = [.ref p] ∧ SqL X.K H p (bs.map V.bl) ∧ Q (.bl (bs.all id)) H) := by
  intro pins s σ H xs us Q I r h
  obtain ⟨p, bs, rfl, hp, q⟩ := h
  obtain ⟨u, rfl, ru⟩ := vals1 r
  cases (show u = Value.ref p from ru)
  obtain ⟨its, rv, pl, hz⟩ := I.list hp
  have hits := Vals.bools rv
  subst hits
  refine call_all_walk (wpAny_pyIter_list pl.isList ?_)
  have hlt : p < s.heap.objs.size := pl.lt
  refine ⟨_, _, _, _, _, _, (fun i => bs.getD i false), rfl, Walks.list (A := X.A.in1) (I.ok.hd hc) s.heap.objs.size p (Nat.ne_of_lt hlt) (bs.map Value.bool).toArray, ⟨⟨_, Heap.get?_push_size _ rfl, rfl, rfl⟩, pl.isList.at fun o e => Heap.get?_push_of_some _ e⟩, truth_bools, fun h' tk hk => ?_⟩
  have e1 : ((bs.map Value.bool).toArray).size = bs.length := by simp
  rw [e1, all_range]
  refine ⟨.bl _, H, I.kept (h' := h') (t' := tk) fun b o e => ?_, rfl, q⟩
  exact hk b o (fun z => by rw [List.mem_singleton] at z; exact absurd (Heap.lt_size e) (by rw [z]; exact Nat.lt_irrefl _)) (Heap.get?_push_of_some _ e)
theorem call_anyS (hc : X.calm = true) : CallR X (.builtin "any") (fun xs H Q => ∃ (p : Addr) (bs : List Bool), xs = [.ref p] ∧ SqL X.K H p (bs.map V.bl) ∧ Q (.bl (bs.any id)) H) := by
  intro pins s σ H xs us Q I r h
  obtain ⟨p, bs, rfl, hp, q⟩ := h
  obtain ⟨u, rfl, ru⟩ := vals1 r
  cases (show u = Value.ref p from ru)
  obtain ⟨its, rv, pl, hz⟩ := I.list hp
  have hits := Vals.bools rv
  subst hits
  refine call_any_walk (wpAny_pyIter_list pl.isList ?_)
  have hlt : p < s.heap.objs.size := pl.lt
  refine ⟨_, _, _, _, _, _, (fun i => bs.getD i false), rfl, Walks.list (A := X.A.in1) (I.ok.hd hc) s.heap.objs.size p (Nat.ne_of_lt hlt) (bs.map Value.bool).toArray, ⟨⟨_, Heap.get?_push_size _ rfl, rfl, rfl⟩, pl.isList.at fun o e => Heap.get?_push_of_some _ e⟩, truth_bools, fun h' tk hk => ?_⟩
  have e1 : ((bs.map Value.bool).toArray).size = bs.length := by simp
  rw [e1, any_range]
  refine ⟨.bl _, H, I.kept (h' := h') (t' := tk) fun b o e => ?_, rfl, q⟩
  exact hk b o (fun z => by rw [List.mem_singleton] at z; exact absurd (Heap.lt_size e) (by rw [z]; exact Nat.lt_irrefl _)) (Heap.get?_push_of_some _ e)
theorem pn_all : PN K (fun xs H Q => ∃ (p : Addr) (bs : List Bool), xs = [.ref p] ∧ SqL K H p (bs.map V.bl) ∧ Q (.bl (bs.all id)) H) allF := by
  intro xs M z M' h W H vs Q G r k
  unfold allF at h
  split at h
  · rename_i ds
    obtain ⟨bs, h1, h⟩ := bindE h
    cases h
    rcases r with _ | ⟨r1, _ | _⟩
    obtain ⟨p, us, rfl, hq, hr⟩ := (show ∃ a us, _ = V.ref a ∧ SqL K W.F a us ∧ RepAll K W.F ds us from r1)
    have e := bools_rep h1 hr
    subst e
    exact ⟨p, bs, rfl, G.fh.seq hq, k _ W H (.refl _) G rfl⟩
  · cases h
theorem pn_any : PN K (fun xs H Q => ∃ (p : Addr) (bs : List Bool), xs = [.ref p] ∧ SqL K H p (bs.map V.bl) ∧ Q (.bl (bs.any id)) H) anyF := by
  intro xs M z M' h W H vs Q G r k
  unfold anyF at h
  split at h
  · rename_i ds
    obtain ⟨bs, h1, h⟩ := bindE h
    cases h
    rcases r with _ | ⟨r1, _ | _⟩
    obtain ⟨p, us, rfl, hq, hr⟩ := (show ∃ a us, _ = V.ref a ∧ SqL K W.F a us ∧ RepAll K W.F ds us from r1)
    have e := bools_rep h1 hr
    subst e
    exact ⟨p, bs, rfl, G.fh.seq hq, k _ W H (.refl _) G rfl⟩
  · cases h
theorem b_all (hc : X.calm = true) : BN X (.builtin "all") allF := ⟨_, call_allS hc, pn_all⟩
theorem b_any (hc : X.calm = true) : BN X (.builtin "any") anyF := ⟨_, call_anyS hc, pn_any⟩
/-! ### stores -/
def setF : F3 := fun x y z M => match x, y with
  | .c i, .d (.int k) => match M[i]? with
    | some (.lst xs) => (ixN xs.length k).bind fun j => some (M.set i (.lst (xs.set j z)))
    | _ => none
  | _, _ => none
theorem p3_set : P3 K rSetL setF := by
  intro x y z M M' h W H v u w Q G rx ry rz k
  unfold setF at h
  split at h
  · rename_i i n
    split at h
    · rename_i xs hx
      obtain ⟨j, h1, h⟩ := bindE h
      cases h
      obtain ⟨us, hv, hr⟩ := G.lstAt hx
      refine ⟨W.α i, us, n, j, rx.2, ry, hv, by rw [← Paired.len hr]; exact h1, ?_⟩
      exact k W _ (.refl _) (G.set hx (by intro q; cases q) (c' := .lst (xs.set j z)) (show RepVs K W _ _ from Paired.set (R := RepV K W) rz j hr))
    · cases h
  · cases h
end
end L2

end

section
set_option Elab.async false
set_option linter.all false
set_option maxRecDepth 100000
set_option maxHeartbeats 4000000
namespace L2
open PySem PySem.Spec PyProof.Rows
/-! ### + over ints, lists, tuples -/
section
variable {X : Cx} {K : PySem.W.Frag}
def rCatS (K : PySem.W.Frag) : R2 := fun x y H Q => ∃ l b xs zs, x = .ref l ∧ y = .ref b ∧ SqL K H l xs ∧ SqL K H b zs ∧ xs.length + zs.length ≤ sizeLine ∧ ∀ p, H p = none → Q (.ref p) (upd H p (.lst (xs ++ zs)))
theorem op_catS : OpR X (binaryOp .Add) (rCatS X.K) := by
  intro pins s σ H x y v u Q I rx ry h
  obtain ⟨l, b, xs, zs, rfl, rfl, hH, hB, hz, q⟩ := h
  cases rx
  cases ry
  obtain ⟨its, r, ⟨⟨cls, dd, data, sl⟩, n, ho, hc, hdd, hd⟩, _⟩ := I.list hH
  obtain ⟨its2, r2, ⟨⟨cls2, dd2, data2, sl2⟩, n2, ho2, hc2, hdd2, hd2⟩, _⟩ := I.list hB
  simp only at hc hd hc2 hd2
  subst hc hd hc2 hd2
  have e1 := r.length
  have e2 := r2.length
  refine concat_meets ⟨_, ho, rfl⟩ ⟨_, ho2, rfl⟩ noFill_list_add seq_list_add PySem.F.slot_list_add PySem.F.entry_list_add (PySem.F.args_list_add_2 _ _) (list_addW l b its.toArray its2.toArray n n2 dd dd2 sl sl2 (by rw [List.size_toArray, List.size_toArray]; omega)) ⟨ho, ho2, ?_⟩
  have ea : its.toArray ++ its2.toArray = (its ++ its2).toArray := by simp
  rw [ea]
  exact ⟨.ref _, _, I.lnew (t' := s.toks) (r.append r2) (by rw [List.length_append]; omega), rfl, q _ I.fresh⟩
/-- the items of a list, data or a cell -/
def lstOf (M : Sto) : CD → Option (List CD)
  | .d (.list ds) => some (ds.map .d)
  | .c i => match M[i]? with
    | some (.lst xs) => some xs
    | _ => none
  | _ => none
theorem lstOf_rep {W : Wd} {M : Sto} {H : Hp} {x : CD} {xs : List CD} {v : V} (G : Good K W M H) (h : lstOf M x = some xs) (r : RepV K W x v) : ∃ p vs, v = .ref p ∧ SqL K H p vs ∧ RepVs K W xs vs := by
  unfold lstOf at h
  split at h
  · rename_i ds
    cases h
    obtain ⟨p, us, rfl, hq, hr⟩ := (show ∃ a us, _ = V.ref a ∧ SqL K W.F a us ∧ RepAll K W.F ds us from r)
    exact ⟨p, us, rfl, G.fh.seq hq, repVs_of hr⟩
  · rename_i i
    split at h
    · rename_i ys hy
      cases h
      obtain ⟨us, hv, hr⟩ := G.lstAt hy
      exact ⟨_, us, r.2, SqL.of hv, hr⟩
    · cases h
  · cases h
def catL : F2 := fun x y M => (lstOf M x).bind fun xs => (lstOf M y).bind fun ys => (allD (xs ++ ys)).bind fun ds => if ds.length ≤ sizeLine then some (.d (.list ds), M) else none
theorem p2_catL : P2 K (rCatS K) catL := by
  intro x y M z M' h W H v u Q G rx ry k
  obtain ⟨xs, h1, h⟩ := bindE h
  obtain ⟨ys, h2, h⟩ := bindE h
  obtain ⟨ds, h3, h⟩ := bindE h
  by_cases hl : ds.length ≤ sizeLine
  · rw [if_pos hl] at h
    cases h
    obtain ⟨p, vs, rfl, hp, hr⟩ := lstOf_rep G h1 rx
    obtain ⟨q, us, rfl, hq, hs⟩ := lstOf_rep G h2 ry
    have el := allD_len h3
    rw [List.length_append] at el
    refine ⟨p, q, vs, us, rfl, rfl, hp, hq, by rw [← Paired.len hr, ← Paired.len hs]; omega, fun l hl => ?_⟩
    obtain ⟨e2, G2⟩ := G.lay (o := .lst (vs ++ us)) hl
    exact k _ _ _ e2 G2 ⟨l, _, rfl, SqL.of upd_same, RepAll.same e2.ff _ _ (repAll_of h3 (Paired.app hr hs))⟩
  · rw [if_neg hl] at h; cases h
def catT : F2 := fun x y M => match x, y with
  | .d (.tuple xs), .d (.tuple ys) => if xs ≠ [] ∧ xs.length + ys.length ≤ sizeLine then some (.d (.tuple (xs ++ ys)), M) else none
  | _, _ => none
theorem RepAll.nil_iff {H : Hp} {ds : List PyData} {vs : List V} (r : RepAll K H ds vs) : vs = [] ↔ ds = [] := by
  have := r.length
  constructor <;> intro h <;> subst h <;> simp at this
  · exact this
  · exact List.eq_nil_of_length_eq_zero this.symm
theorem p2_catT : P2 K (rCatT K) catT := by
  intro x y M z M' h W H v u Q G rx ry k
  unfold catT at h
  split at h
  · rename_i xs ys
    by_cases hc : xs ≠ [] ∧ xs.length + ys.length ≤ sizeLine
    · rw [if_pos hc] at h
      cases h
      obtain ⟨p, vs, rfl, hp, hr⟩ := (show ∃ a us, v = V.ref a ∧ SqT K W.F a us ∧ RepAll K W.F xs us from rx)
      obtain ⟨q, us, rfl, hq, hs⟩ := (show ∃ a us, u = V.ref a ∧ SqT K W.F a us ∧ RepAll K W.F ys us from ry)
      refine ⟨p, q, vs, us, rfl, rfl, G.fh.seqT hp, G.fh.seqT hq, fun z => hc.1 (hr.nil_iff.mp z), by rw [← hr.length, ← hs.length]; exact hc.2, fun z => ?_, fun z l hl => ?_⟩
      · have : ys = [] := hs.nil_iff.mp z
        subst this
        rw [List.append_nil] at k
        exact k _ W H (.refl _) G ⟨p, vs, rfl, hp, hr⟩
      · obtain ⟨e2, G2⟩ := G.lay (o := .tup (vs ++ us)) hl
        exact k _ _ _ e2 G2 ⟨l, _, rfl, SqT.of upd_same, RepAll.same e2.ff _ _ (RepAll.app hr hs)⟩
    · rw [if_neg hc] at h; cases h
  · cases h
theorem P2.or {r r' : R2} {h h' : F2} (a : P2 K r h) (b : P2 K r' h') : P2 K (fun x y H Q => r x y H Q ∨ r' x y H Q) (orF2 h h') := by
  intro x y M z M' hh W H v u Q G rv ru k
  unfold orF2 at hh
  cases e : h x y M with
  | some q =>
    rw [e] at hh
    cases hh
    exact .inl (a _ _ _ _ _ e W H v u Q G rv ru k)
  | none =>
    rw [e] at hh
    exact .inr (b _ _ _ _ _ hh W H v u Q G rv ru k)
/-- () + u is u -/
def rCatT0 (K : PySem.W.Frag) : R2 := fun x y H Q => ∃ a b ys, x = .ref a ∧ y = .ref b ∧ SqT K H a [] ∧ SqT K H b ys ∧ Q (.ref b) H
theorem op_catT0 : OpR X (binaryOp .Add) (rCatT0 X.K) := by
  intro pins s σ H x y v u Q I rx ry h
  obtain ⟨a, b, ys, rfl, rfl, ha, hb, q⟩ := h
  cases rx
  cases ry
  obtain ⟨its, r1, ⟨⟨cls, dd, data, sl⟩, ho, hc, n, hd⟩, _⟩ := I.tuple ha
  obtain ⟨its2, r2, ⟨⟨cls2, dd2, data2, sl2⟩, ho2, hc2, n2, hd2⟩, _⟩ := I.tuple hb
  simp only at hc hd hc2 hd2
  subst hc hd hc2 hd2
  cases r1
  exact concat_meets ⟨_, ho, rfl⟩ ⟨_, ho2, rfl⟩ noFill_tuple_add seq_tuple_add PySem.F.slot_tuple_add PySem.F.entry_tuple_add (PySem.F.args_tuple_add_2 _ _) (tuple_addW0 a b #[] its2.toArray n n2 dd dd2 sl sl2 rfl) ⟨ho, ho2, ⟨.ref b, H, I, rfl, q⟩⟩
def catT0 : F2 := fun x y M => match x, y with
  | .d (.tuple []), .d (.tuple ys) => some (.d (.tuple ys), M)
  | _, _ => none
theorem p2_catT0 : P2 K (rCatT0 K) catT0 := by
  intro x y M z M' h W H v u Q G rx ry k
  unfold catT0 at h
  split at h
  · rename_i ys
    cases h
    obtain ⟨p, vs, rfl, hp, hr⟩ := (show ∃ a us, v = V.ref a ∧ SqT K W.F a us ∧ RepAll K W.F [] us from rx)
    obtain ⟨q, us, rfl, hq, hs⟩ := (show ∃ a us, u = V.ref a ∧ SqT K W.F a us ∧ RepAll K W.F ys us from ry)
    rw [show vs = [] from hr] at hp
    exact ⟨p, q, us, rfl, rfl, G.fh.seqT hp, G.fh.seqT hq, k _ W H (.refl _) G ⟨q, us, rfl, hq, hs⟩⟩
  · cases h
def addX : F2 := orF2 addI (orF2 catL (orF2 catT0 catT))
def rAddX (K : PySem.W.Frag) : R2 := fun x y H Q => (rI0 fun i j => .int (i + j)) x y H Q ∨ rCatS K x y H Q ∨ rCatT0 K x y H Q ∨ rCatT K x y H Q
theorem op_addX : OpR X (binaryOp .Add) (rAddX X.K) := op_add.or (op_catS.or (op_catT0.or op_catT))
theorem p2_addX : P2 K (rAddX K) addX := P2.or p2_I0 (P2.or p2_catL (P2.or p2_catT0 p2_catT))
/-! ### == of texts, too -/
def eqS (neg : Bool) : F2 := fun x y M => match x, y with
  | .d (.str a), .d (.str b) => some (.d (.bool (if neg then !(a == b) else a == b)), M)
  | _, _ => none
def eqX (neg : Bool) : F2 := orF2 (eqS neg) (eqD neg)
def rEqX (K : PySem.W.Frag) : R2 := fun x y H Q => rEq x y H Q ∨ rEqD K false x y H Q
def rNeX (K : PySem.W.Frag) : R2 := fun x y H Q => rNe x y H Q ∨ rEqD K true x y H Q
theorem decStr {a b : Str} : decide (V.str a = V.str b) = (a == b) := by
  by_cases e : a = b
  · subst e; simp
  · have h : ¬ V.str a = V.str b := fun q => e (V.str.inj q)
    rw [decide_eq_false h, beq_eq_false_iff_ne.mpr e]
theorem p2_eqS : P2 K rEq (eqS false) := by
  intro x y M z M' h W H v u Q G rx ry k
  unfold eqS at h
  split at h
  · rename_i a b
    cases h
    rw [show v = .str a from rx, show u = .str b from ry]
    refine ⟨rfl, ?_⟩
    rw [decStr]
    exact k _ W H (.refl _) G rfl
  · cases h
theorem p2_neS : P2 K rNe (eqS true) := by
  intro x y M z M' h W H v u Q G rx ry k
  unfold eqS at h
  split at h
  · rename_i a b
    cases h
    rw [show v = .str a from rx, show u = .str b from ry]
    refine ⟨rfl, ?_⟩
    rw [decStr]
    exact k _ W H (.refl _) G rfl
  · cases h
theorem p2_eqX : P2 K (rEqX K) (eqX false) := P2.or p2_eqS p2_eq
theorem p2_neX : P2 K (rNeX K) (eqX true) := P2.or p2_neS p2_eq
theorem op_eqX (hu : X.A.units + 64 < cLine) : OpR X (compareOp .Eq) (rEqX X.K) := op_eq.or (op_eqD hu)
theorem op_neX (hu : X.A.units + 64 < cLine) : OpR X (compareOp .NotEq) (rNeX X.K) := op_ne.or (op_neD hu)
theorem p2_sub : P2 K (rI0 fun i j => .int (i - j)) subI := p2_I0
theorem p2_mul : P2 K (rI CMulA fun i j => .int (i * j)) mulI := p2_I fun _ _ h => mulOk_of h
theorem p2_fdiv : P2 K (rI CDivA fun i j => .int (i / j)) fdivI := p2_I fun i j h => by
  unfold divOk at h
  rw [Bool.and_eq_true] at h
  exact ⟨of_decide_eq_true h.1, of_decide_eq_true (p := j.natAbs < wideN) h.2⟩
theorem p2_mod : P2 K (rI (fun _ j => 0 < j) fun i j => .int (i % j)) modI := p2_I fun i j h => of_decide_eq_true h
theorem p2_pow : P2 K (rI CPow fun i j => .int (i ^ j.toNat)) powI := p2_I fun i j h => by
  unfold powOk at h
  rw [Bool.and_eq_true, Bool.and_eq_true] at h
  exact ⟨of_decide_eq_true h.1.1, of_decide_eq_true h.1.2, of_decide_eq_true h.2⟩
theorem p2_lt : P2 K (rI0 fun i j => .bl (decide (i < j))) ltI := p2_B0
theorem p2_le : P2 K (rI0 fun i j => .bl (decide (i ≤ j))) leI := p2_B0
theorem p2_gt : P2 K (rI0 fun i j => .bl (decide (j < i))) gtI := p2_B0
theorem p2_ge : P2 K (rI0 fun i j => .bl (decide (j ≤ i))) geI := p2_B0
theorem se_cmp {ta tb : TE} {f g : EF} {r : R2} {h : F2} (p : P2 K r h) (a : SE K ta f) (b : SE K tb g) : SE K (tOp r ta tb) (fOp h f g) := se_op p a b
def negI : F1 := fun x M => match x with
  | .d (.int i) => some (.d (.int (-i)), M)
  | _ => none
theorem p1_neg : P1 K (rU fun i => .int (-i)) negI := by
  intro x M z M' h W H v Q G r k
  unfold negI at h
  split at h
  · rename_i i
    cases h
    exact ⟨i, r, k _ W H (.refl _) G rfl⟩
  · cases h
end
end L2

end

section
set_option Elab.async false
set_option linter.all false
set_option maxRecDepth 100000
set_option maxHeartbeats 4000000
namespace L2
open PySem PySem.Spec PyProof.Rows
/-! the rules once more, their part of the text a letter of its own -/
section
variable {X : Cx} {K : PySem.W.Frag}
theorem kIsi (h : X.K = K) : CallR X (.builtin "isinstance") (rIsi K) := by subst h; exact call_isiD
theorem kIsi2 (h : X.K = K) : CallR X (.builtin "isinstance") (rIsi2 K) := by subst h; exact call_isi2D
def rIxK (K : PySem.W.Frag) : R2 := rIx K
theorem kIx (h : X.K = K) : IxR X (rIxK K) := by subst h; exact ix_seq
theorem p2_ixK : P2 K (rIxK K) ixF := p2_ix
def rLenK (K : PySem.W.Frag) : List V → Hp → VK → Prop := fun xs H Q => ∃ p ys, xs = [.ref p] ∧ (SqL K H p ys ∨ SqT K H p ys) ∧ Q (.int ys.length) H
theorem kLen (h : X.K = K) : CallR X (.builtin "len") (rLenK K) := by subst h; exact call_len_seq
theorem pn_lenK : PN K (rLenK K) lenF := pn_len
def rListK (K : PySem.W.Frag) : List V → Hp → VK → Prop := fun xs H Q => ∃ p ys, xs = [.ref p] ∧ (SqL K H p ys ∨ SqT K H p ys) ∧ ∀ l, H l = none → Q (.ref l) (upd H l (.lst ys))
theorem kList (h : X.K = K) : CallR X (.type "list") (rListK K) := by subst h; exact call_list_of
theorem pn_listK : PN K (rListK K) listF := pn_list
def rTupleK (K : PySem.W.Frag) : List V → Hp → VK → Prop := fun xs H Q => ∃ p ys, xs = [.ref p] ∧ ((SqL K H p ys ∧ ∀ l, H l = none → Q (.ref l) (upd H l (.tup ys))) ∨ (SqT K H p ys ∧ Q (.ref p) H))
theorem kTuple (h : X.K = K) : CallR X (.type "tuple") (rTupleK K) := by subst h; exact call_tuple_of
theorem pn_tupleK : PN K (rTupleK K) tupleF := pn_tuple
def rAllK (K : PySem.W.Frag) : List V → Hp → VK → Prop := fun xs H Q => ∃ (p : Addr) (bs : List Bool), xs = [.ref p] ∧ SqL K H p (bs.map V.bl) ∧ Q (.bl (bs.all id)) H
theorem kAll (h : X.K = K) (hc : X.calm = true) : CallR X (.builtin "all") (rAllK K) := by subst h; exact call_allS hc
theorem pn_allK : PN K (rAllK K) allF := pn_all
def rAnyK (K : PySem.W.Frag) : List V → Hp → VK → Prop := fun xs H Q => ∃ (p : Addr) (bs : List Bool), xs = [.ref p] ∧ SqL K H p (bs.map V.bl) ∧ Q (.bl (bs.any id)) H
theorem kAny (h : X.K = K) (hc : X.calm = true) : CallR X (.builtin "any") (rAnyK K) := by subst h; exact call_anyS hc
theorem pn_anyK : PN K (rAnyK K) anyF := pn_any
theorem kEq (h : X.K = K) (hu : X.A.units + 64 < cLine) : OpR X (compareOp .Eq) (rEqX K) := by subst h; exact op_eqX hu
theorem kNe (h : X.K = K) (hu : X.A.units + 64 < cLine) : OpR X (compareOp .NotEq) (rNeX K) := by subst h; exact op_neX hu
theorem kIn (h : X.K = K) (hu : X.A.in1.units + 64 < cLine) : OpR X (compareOp .In) (rInD K false) := by subst h; exact op_inD hu
theorem kNotIn (h : X.K = K) (hu : X.A.in1.units + 64 < cLine) : OpR X (compareOp .NotIn) (rInD K true) := by subst h; exact op_notInD hu
theorem kAdd (h : X.K = K) : OpR X (binaryOp .Add) (rAddX K) := by subst h; exact op_addX
theorem pi_seqK {tg l : Expr} {tl : TE} (h : X.K = K) (hl : PE X l tl) : PI X tg l (iSeq K tl) := by subst h; exact pi_seq hl
theorem pg_tupK {es : List Expr} {k : Nat} {t : TGs} {n : Nat} {pos : Pos} (hK : X.K = K) (hc : X.calm = true) (h : PGs X es t)
    (hn : (assignEach es X.env).length = n := by rfl) (hst : (assignEach es X.env).findIdx? (·.1) = none := by rfl) : PG X (.Tuple es k pos) (gTup K n t) := by subst hK; exact pg_tup hc h hn hst
def tTru (K : PySem.W.Frag) (ta : TE) : TT := fun σ H Q => ta σ H fun x H' => ∃ k, TruV K x H' k ∧ Q k H'
theorem pt_truK {a : Expr} {ta : TE} (hK : X.K = K) (ha : PE X a ta) (he : ∀ whole, isTrue a X.env whole = (do let v ← whole; standAt a.pos; holding [v] (truthy v))) : PT X a (tTru K ta) := by subst hK; exact pt_truth ha he
theorem st_truK {ta : TE} {f : EF} (a : SE K ta f) : STt K (tTru K ta) (gTru f) := st_tru a
end
end L2

end

section
set_option Elab.async false
set_option linter.all false
namespace L2
open PySem PySem.Spec PyProof.Rows
section
variable {es : List Expr} {env : Env}
theorem star_Constant {a b c} : starEach (.Constant a b c :: es) env = (false, eval (.Constant a b c) env) :: starEach es env := rfl
theorem star_Name {a b} : starEach (.Name a b :: es) env = (false, eval (.Name a b) env) :: starEach es env := rfl
theorem star_Tuple {a b c} : starEach (.Tuple a b c :: es) env = (false, eval (.Tuple a b c) env) :: starEach es env := rfl
theorem star_List {a b} : starEach (.List a b :: es) env = (false, eval (.List a b) env) :: starEach es env := rfl
theorem star_BinOp {a b c d} : starEach (.BinOp a b c d :: es) env = (false, eval (.BinOp a b c d) env) :: starEach es env := rfl
theorem star_UnaryOp {a b c} : starEach (.UnaryOp a b c :: es) env = (false, eval (.UnaryOp a b c) env) :: starEach es env := rfl
theorem star_BoolOp {a b c} : starEach (.BoolOp a b c :: es) env = (false, eval (.BoolOp a b c) env) :: starEach es env := rfl
theorem star_Compare {a b c d} : starEach (.Compare a b c d :: es) env = (false, eval (.Compare a b c d) env) :: starEach es env := rfl
theorem star_Call {a b c d} : starEach (.Call a b c d :: es) env = (false, eval (.Call a b c d) env) :: starEach es env := rfl
theorem star_IfExp {a b c d} : starEach (.IfExp a b c d :: es) env = (false, eval (.IfExp a b c d) env) :: starEach es env := rfl
theorem star_Subscript {a b c} : starEach (.Subscript a b c :: es) env = (false, eval (.Subscript a b c) env) :: starEach es env := rfl
theorem star_Attribute {a b c} : starEach (.Attribute a b c :: es) env = (false, eval (.Attribute a b c) env) :: starEach es env := rfl
theorem star_ListComp {a b c d} : starEach (.ListComp a b c d :: es) env = (false, eval (.ListComp a b c d) env) :: starEach es env := rfl
theorem star_DictComp {a b c d e} : starEach (.DictComp a b c d e :: es) env = (false, eval (.DictComp a b c d e) env) :: starEach es env := rfl
theorem star_Dict {a b c} : starEach (.Dict a b c :: es) env = (false, eval (.Dict a b c) env) :: starEach es env := rfl
theorem plain_nil {pos : Pos} : (backTo pos (starEach [] env)).any (·.1) = false := rfl
theorem plain_cons {pos : Pos} {e : Expr} (hs : starEach (e :: es) env = (false, eval e env) :: starEach es env) (h : (backTo pos (starEach es env)).any (·.1) = false) : (backTo pos (starEach (e :: es) env)).any (·.1) = false := by
  rw [hs]
  have e1 : backTo pos ((false, eval e env) :: starEach es env) = (false, (do let v ← eval e env; standAt pos; pure v : Sem Value)) :: backTo pos (starEach es env) ∨ (backTo pos ((false, eval e env) :: starEach es env)).any (·.1) = (backTo pos (starEach es env)).any (·.1) := .inr (by unfold backTo; simp)
  rcases e1 with q | q
  · rw [q, List.any_cons, h]; rfl
  · rw [q]; exact h
end
end L2

end

section
set_option Elab.async false
set_option linter.all false
set_option maxRecDepth 100000
set_option maxHeartbeats 4000000
namespace L2
open PySem PySem.Spec PyProof.Rows
section
variable {P : Program} {w : World} {K : PySem.W.Frag} {mg : Str → Option Value}
theorem Fun.okM {base : Heap} {x : Str} {st : Stmt} {N ps : List Str} {k : Nat} {b : SF} {f : Addr} {fd : FuncData} (F : Fun K x x st f fd) (S : FnScope N ps (defScope st))
    (hbody : ∀ (f : Addr) (cdv : Value) (A : Around) (outer : List Env) (s : Shared) (H : Hp) (E : XK), Room k (A.deeper (envOfC x (defScope st) s.heap.objs.size f cdv)) →
      ∃ t, PSs (cxOf CX0 P w K mg base N x (defScope st) f cdv A outer s H E).nox (defBody st) t ∧ SS K t b) : FnOk P w K mg base CX0 (k + 1) f fd ps (spM K (fnF ps.length N.length b)) := by
  have len : ∀ vs H Q E, spM K (fnF ps.length N.length b) vs H Q E → vs.length = ps.length := fun vs H Q E h => by
    obtain ⟨xs, M, W, y, M', G, R, hf, _⟩ := h
    by_cases hl : xs.length = ps.length
    · rw [← Paired.len R]; exact hl
    · unfold fnF at hf
      rw [if_neg hl] at hf; cases hf
  refine F.ok S len fun cdv A outer s H vs Q E hr h => ?_
  obtain ⟨t, hP, hS⟩ := hbody f cdv A outer s H E hr
  refine ⟨t, hP, ?_⟩
  obtain ⟨xs, M, W, y, M', G, R, hf, k⟩ := h
  by_cases hl : xs.length = ps.length
  · unfold fnF at hf
    rw [if_pos hl] at hf
    obtain ⟨⟨o, M1⟩, h1, hf⟩ := bindE hf
    have hR : RepS K W (xs.map some ++ List.replicate (N.length - xs.length) none) (start N vs) := by
      unfold start
      rw [← Paired.len R]
      exact Paired.app (RepVs.some R) (rep_none _)
    refine hS _ _ _ _ h1 W H _ _ G hR fun W1 H1 e1 G1 => ?_
    cases o with
    | rt x => cases hf; exact fun v r => k v W1 H1 e1 G1 r
    | nx γ => cases hf; exact fun σ r => k .non W1 H1 e1 G1 rfl
    | bk γ => cases hf
    | ct γ => cases hf
  · unfold fnF at hf
    rw [if_neg hl] at hf; cases hf
/-- the law's own def -/
theorem Def.okL {x p : Str} {st : Stmt} {N : List Str} {k : Nat} {b : SF} {F : FN} (D : Def K mg x st) (S : FnScope N [p] (defScope st)) (hF : F = fnF 1 N.length b)
    (hb : ∀ (kV doc pm : Value) (an : Option Addr) (cdv ct : Value) (us : List Value), us.length = [p].length → bindArgs (PySem.W.fnOf x x (defArgs st) (defBody st) (defScope st) .none kV doc pm an cdv ct) ⟨us, []⟩ = pure ([p].zip us))
    (hbody : ∀ (base : Heap) (f : Addr) (cdv : Value) (A : Around) (outer : List Env) (s : Shared) (H : Hp) (E : XK), Room k (A.deeper (envOfC x (defScope st) s.heap.objs.size f cdv)) →
      ∃ t, PSs (cxOf CX0 P w K mg base N x (defScope st) f cdv A outer s H E).nox (defBody st) t ∧ SS K t b) :
    ∃ f fd, mg x = some (.ref f) ∧ (∀ (s : Shared) (u : Value), BindsTo s fd ⟨[u], []⟩ [(p, u)]) ∧ ∀ base, FnOk P w K mg base CX0 (k + 1) f fd [p] (spM K F) := by
  subst hF
  obtain ⟨f, fd, Fu, m⟩ := D.ex
  refine ⟨f, fd, m, fun s u => ?_, fun base => Fu.okM S (hbody base)⟩
  obtain ⟨oc, od, kV, doc, pm, an, cdv, ct, osl, rfl, lk, hcd⟩ := Fu.ex
  exact .of_eq (hb kV doc pm an cdv ct [u] rfl)
theorem rep_ints {H : Hp} : ∀ ns : List Int, RepAll K H (ns.map .int) (ns.map V.int)
  | [] => rfl
  | n :: ns => ⟨.int n, ns.map V.int, rfl, rfl, rep_ints ns⟩
/-- what the head asks of the law's promise -/
theorem law_sp {F : FN} (hF : ∀ ns : List Int, ns.length ≤ 63 → ∃ M', F [.d (.list (ns.map .int))] [] = some (.d (.bool true), M')) {H : Hp} {a : Addr} {ns : List Int} (hl : ns.length ≤ 63) (hS : SqL K H a (ns.map V.int)) (E : XK) :
    spM K F [.ref a] H (fun v _ => v = .bl true) E := by
  obtain ⟨M', h⟩ := hF ns hl
  refine ⟨[.d (.list (ns.map .int))], [], ⟨H, fun _ => 0, 0⟩, _, M', ⟨Same.refl H, rfl, fun i c h => by simp at h, fun i j c c' h => by simp at h⟩, .cons (show ∃ a' vs, V.ref a = .ref a' ∧ SqL K H a' vs ∧ RepAll K H (ns.map .int) vs from ⟨a, ns.map V.int, rfl, hS, rep_ints ns⟩) .nil, h, fun v W' H' _ _ r => r⟩
theorem law_walk {l : PySem.W.OpenLaw} {q : Program} {loose : List Str} {XP : (Str → Option Value) → Heap → Prop} {YP : World → Heap → Prop} {d : DefRec} {K : Params → PySem.W.Frag} {F : FN} {k : Nat} {p : Str} (hq : PyProof.Rows.importsNone q = true) (hn : l.most = some 63) (hdf : d.params.defaults = []) (hr : Room k callerA)
    (hY : ∀ (w : World) (h : Heap), YP w h → (K w.params).In h)
    (hT : ∀ (w : World) (mg : Str → Option Value) (h : Heap), (K w.params).In h → h.Ns mainGlobals mg → ∃ f fd, mg d.name = some (.ref f) ∧ (∀ (s : Shared) (u : Value), BindsTo s fd ⟨[u], []⟩ [(p, u)]) ∧ ∀ base, FnOk l.prog w (K w.params) mg base CX0 k f fd [p] (spM (K w.params) F))
    (hF : ∀ ns : List Int, ns.length ≤ 63 → ∃ M', F [.d (.list (ns.map .int))] [] = some (.d (.bool true), M')) :
    PySem.W.WalkO q loose XP YP l.row.toRowW d [] (fun f vs => PySem.call f vs) :=
  L2.walk_of hq (n := 63) (k := k) (x := p) (CX := fun _ => CX0) (sp := fun w => spM (K w.params) F) hn (by decide) hdf hr hY
    (fun w mg fa h KX G hmg => by
      obtain ⟨f, fd, m, hb, hf⟩ := hT w mg h KX G
      have e : (some (Value.ref f)) = some (.ref fa) := m.symm.trans hmg
      cases e
      exact ⟨fd, hb, fun base _ _ => hf base⟩)
    (fun w H a ns hl _ hS => law_sp hF hl hS _) fun _ _ _ _ _ z => z
end
end L2

end

section
set_option Elab.async false
set_option linter.all false
set_option maxRecDepth 100000
set_option maxHeartbeats 4000000
namespace L2
open PySem PySem.Spec PyProof.Rows
/-! # the text and its mirror in one judgement, over a family of contexts -/
def Star (e : Expr) (es : List Expr) : Prop := ∀ env : Env, starEach (e :: es) env = (false, eval e env) :: starEach es env
def Stars : List Expr → Prop
  | [] => True
  | e :: es => Star e es ∧ Stars es
theorem Stars.plain : ∀ {es : List Expr}, Stars es → ∀ (env : Env) (pos : Pos), (backTo pos (starEach es env)).any (·.1) = false
  | [], _, _, _ => rfl
  | _ :: _, h, env, pos => plain_cons (h.1 env) (h.2.plain env pos)
section
variable {ι : Type}
structure ME (K : PySem.W.Frag) (X : ι → Cx) (e : Expr) (f : EF) : Prop where
  ex : ∃ t, (∀ i, PE (X i) e t) ∧ SE K t f
structure MT (K : PySem.W.Frag) (X : ι → Cx) (e : Expr) (f : TF) : Prop where
  ex : ∃ t, (∀ i, PT (X i) e t) ∧ STt K t f
structure MW (K : PySem.W.Frag) (X : ι → Cx) (e : Expr) (f : TF) : Prop where
  ex : ∃ t, (∀ i, PW (X i) e t) ∧ STt K t f
structure MA (K : PySem.W.Frag) (X : ι → Cx) (es : List Expr) (f : AF) : Prop where
  ex : ∃ t, (∀ i, PA (X i) es t) ∧ SA K t f
  st : Stars es
structure MG (K : PySem.W.Frag) (X : ι → Cx) (e : Expr) (f : GF) : Prop where
  ex : ∃ t, (∀ i, PG (X i) e t) ∧ SG K t f
structure MGs (K : PySem.W.Frag) (X : ι → Cx) (es : List Expr) (f : GsF) : Prop where
  ex : ∃ t, (∀ i, PGs (X i) es t) ∧ SGs K t f
structure MI (K : PySem.W.Frag) (X : ι → Cx) (tg e : Expr) (f : AF) : Prop where
  ex : ∃ t, (∀ i, PI (X i) tg e t) ∧ SI K t f
structure MF (K : PySem.W.Frag) (X : ι → Cx) (es : List Expr) (f : TF) : Prop where
  ex : ∃ t, (∀ i, PIfs (X i) es t) ∧ STt K t f
structure MS (K : PySem.W.Frag) (X : ι → Cx) (st : Stmt) (f : SF) : Prop where
  ex : ∃ t, (∀ i, PS (X i) st t) ∧ SS K t f
structure ML (K : PySem.W.Frag) (X : ι → Cx) (st : List Stmt) (f : SF) : Prop where
  ex : ∃ t, (∀ i, PSs (X i) st t) ∧ SS K t f
/-- primitives -/
structure Q2 (K : PySem.W.Frag) (X : ι → Cx) (o : Value → Value → Sem Value) (h : F2) : Prop where
  ex : ∃ r, (∀ i, OpR (X i) o r) ∧ P2 K r h
structure Q1 (K : PySem.W.Frag) (X : ι → Cx) (o : Value → Sem Value) (h : F1) : Prop where
  ex : ∃ r, (∀ i, UnR (X i) o r) ∧ P1 K r h
structure QN (K : PySem.W.Frag) (X : ι → Cx) (f : Value) (h : FN) : Prop where
  ex : ∃ r, (∀ i, CallR (X i) f r) ∧ PN K r h
structure QI (K : PySem.W.Frag) (X : ι → Cx) (h : F2) : Prop where
  ex : ∃ r, (∀ i, IxR (X i) r) ∧ P2 K r h
structure QS (K : PySem.W.Frag) (X : ι → Cx) (h : F3) : Prop where
  ex : ∃ r, (∀ i, PSet (X i) r) ∧ P3 K r h
structure QG (K : PySem.W.Frag) (X : ι → Cx) (h : F2) : Prop where
  ex : ∃ r, (∀ i, PGet (X i) r) ∧ P2 K r h
structure QP (K : PySem.W.Frag) (X : ι → Cx) (o : Operator) (h : F2) : Prop where
  ex : ∃ r, (∀ i, PIp (X i) o r) ∧ P2 K r h
variable {K : PySem.W.Frag} {X : ι → Cx} {a b c e : Expr} {es : List Expr} {f g h : EF} {ft gt : TF} {fa : AF} {pos : Pos}
theorem me_var (i : Nat) {x : Str} (hN : ∀ j, (X j).N[i]? = some x := by intro _; rfl) (hv : ∀ j, Vis (X j).env.scope x := by intro _; first | exact Or.inl rfl | exact Or.inr (Or.inl rfl) | exact Or.inr (Or.inr rfl)) (hd : (x == ("__debug__" : Str)) = false := by decide) (hcd : (x == ("__classdict__" : Str)) = false := by decide) :
    ME K X (.Name x pos) (fVar i) := ⟨_, fun j => pe_var (hN j) (hv j) hd hcd, se_var⟩
theorem me_int {i : Int} {j : Nat} : ME K X (.Constant (.int i) j pos) (fC (.int i)) := ⟨_, fun _ => pe_int, se_int⟩
theorem me_bl {i : Bool} {j : Nat} : ME K X (.Constant (.bool i) j pos) (fC (.bool i)) := ⟨_, fun _ => pe_bl, se_bl⟩
theorem me_non {j : Nat} : ME K X (.Constant .none j pos) (fC .none) := ⟨_, fun _ => pe_non, se_non⟩
theorem me_str {i : Str} {j : Nat} : ME K X (.Constant (.str i) j pos) (fC (.str i)) := ⟨_, fun _ => pe_str, se_str⟩
theorem me_globI {x : Str} {n : Int} (hm : ∀ i, ∃ t : Tok, (X i).mg x = some (.int n t)) (hg : ∀ i, Gl (X i) x := by intro _; rfl) (hd : (x == ("__debug__" : Str)) = false := by decide) : ME K X (.Name x pos) (fC (.int n)) :=
  ⟨_, fun i => pe_glob (v := .int n) (hg i) (hm i).choose_spec ⟨_, rfl⟩ hd, se_int⟩
theorem me_op {op : Operator} {k : F2} (q : Q2 K X (binaryOp op) k) (x : ME K X a f) (y : ME K X b g) : ME K X (.BinOp a op b pos) (fOp k f g) := by
  obtain ⟨r, q1, q2⟩ := q.ex; obtain ⟨t, x1, x2⟩ := x.ex; obtain ⟨u, y1, y2⟩ := y.ex
  exact ⟨_, fun i => pe_op (q1 i) (x1 i) (y1 i), se_op q2 x2 y2⟩
theorem me_un {op : UnaryOp} {k : F1} (q : Q1 K X (unaryOp op) k) (x : ME K X a f) : ME K X (.UnaryOp op a pos) (fUn k f) := by
  obtain ⟨r, q1, q2⟩ := q.ex; obtain ⟨t, x1, x2⟩ := x.ex
  exact ⟨_, fun i => pe_un (q1 i) (x1 i), se_un q2 x2⟩
theorem me_and {rest : List Expr} (x : ME K X a f) (y : ME K X (.BoolOp .And (b :: rest) pos) g) : ME K X (.BoolOp .And (a :: b :: rest) pos) (fAnd f g) := by
  obtain ⟨t, x1, x2⟩ := x.ex; obtain ⟨u, y1, y2⟩ := y.ex
  exact ⟨_, fun i => pe_and (x1 i) (y1 i), se_and x2 y2⟩
theorem me_or {rest : List Expr} (x : ME K X a f) (y : ME K X (.BoolOp .Or (b :: rest) pos) g) : ME K X (.BoolOp .Or (a :: b :: rest) pos) (fOr f g) := by
  obtain ⟨t, x1, x2⟩ := x.ex; obtain ⟨u, y1, y2⟩ := y.ex
  exact ⟨_, fun i => pe_or (x1 i) (y1 i), se_or x2 y2⟩
theorem me_one {op : BoolOp} (x : ME K X a f) : ME K X (.BoolOp op [a] pos) f := by
  obtain ⟨t, x1, x2⟩ := x.ex
  exact ⟨_, fun i => pe_one (x1 i), x2⟩
theorem me_not (x : ME K X a f) : ME K X (.UnaryOp .Not a pos) (fNot f) := by
  obtain ⟨t, x1, x2⟩ := x.ex
  exact ⟨_, fun i => pe_not (x1 i), se_not x2⟩
theorem me_cmp {op : CmpOp} {k : F2} (q : Q2 K X (compareOp op) k) (x : ME K X a f) (y : ME K X b g) (hm : behindInMarks op b = false := by rfl) : ME K X (.Compare a [op] [b] pos) (fOp k f g) := by
  obtain ⟨r, q1, q2⟩ := q.ex; obtain ⟨t, x1, x2⟩ := x.ex; obtain ⟨u, y1, y2⟩ := y.ex
  exact ⟨_, fun i => pe_cmpR (q1 i) (x1 i) (y1 i) hm, se_op q2 x2 y2⟩
theorem me_chain {op op' : CmpOp} {k k' : F2} (q : Q2 K X (compareOp op) k) (q' : Q2 K X (compareOp op') k') (x : ME K X a f) (y : ME K X b g) (z : ME K X c h) (hm : lastMarks [op, op'] [b, c] = false := by with_unfolding_all rfl) : ME K X (.Compare a [op, op'] [b, c] pos) (fChain k k' f g h) := by
  obtain ⟨r, q1, q2⟩ := q.ex; obtain ⟨r', q1', q2'⟩ := q'.ex; obtain ⟨t, x1, x2⟩ := x.ex; obtain ⟨u, y1, y2⟩ := y.ex; obtain ⟨v, z1, z2⟩ := z.ex
  exact ⟨_, fun i => pe_chain (q1 i) (q1' i) (x1 i) (y1 i) (z1 i) hm, se_chain q2 q2' x2 y2 z2⟩
theorem me_if (x : MT K X c ft) (y : ME K X a f) (z : ME K X b g) : ME K X (.IfExp c a b pos) (fIf ft f g) := by
  obtain ⟨t, x1, x2⟩ := x.ex; obtain ⟨u, y1, y2⟩ := y.ex; obtain ⟨v, z1, z2⟩ := z.ex
  exact ⟨_, fun i => pe_ifExp (x1 i) (y1 i) (z1 i), se_if x2 y2 z2⟩
theorem ma_nil : MA K X [] fNil := ⟨⟨_, fun _ => pa_nil, sa_nil⟩, trivial⟩
theorem ma_cons (x : ME K X e f) (y : MA K X es fa) (hs : Star e es) : MA K X (e :: es) (fCons f fa) := by
  obtain ⟨t, x1, x2⟩ := x.ex; obtain ⟨u, y1, y2⟩ := y.ex
  exact ⟨⟨_, fun i => pa_cons (x1 i) (y1 i) (hs _), sa_cons x2 y2⟩, hs, y.st⟩
theorem me_tup {k : Nat} (x : MA K X es fa) : ME K X (.Tuple es k pos) (fTup fa) := by
  obtain ⟨t, x1, x2⟩ := x.ex
  exact ⟨_, fun i => pe_tup (x1 i), se_tup x2⟩
theorem me_lst (x : MA K X es fa) : ME K X (.List es pos) (fLst fa) := by
  obtain ⟨t, x1, x2⟩ := x.ex
  exact ⟨_, fun i => pe_lst (x1 i), se_lst x2⟩
theorem me_new (x : MA K X es fa) : ME K X (.List es pos) (fNew fa) := by
  obtain ⟨t, x1, x2⟩ := x.ex
  exact ⟨_, fun i => pe_lst (x1 i), se_new x2⟩
theorem me_ix {k : F2} (q : QI K X k) (x : ME K X a f) (y : ME K X b g) (hs : PlainIx b) : ME K X (.Subscript a b pos) (fOp k f g) := by
  obtain ⟨r, q1, q2⟩ := q.ex; obtain ⟨t, x1, x2⟩ := x.ex; obtain ⟨u, y1, y2⟩ := y.ex
  exact ⟨_, fun i => pe_ix (q1 i) (x1 i) (y1 i) hs, se_op q2 x2 y2⟩
theorem me_call {k : Nat} {x : Str} {ps : List Str} {F : FN} {p : Pos} (C : ∀ i, Callee (X i).prog (X i).w (X i).K (X i).mg (X i).base k x ps (spM K F)) (hr : ∀ i, Room k (X i).A) (y : MA K X (e :: es) fa) (hg : ∀ i, Gl (X i) x := by intro _; rfl) (hd : (x == ("__debug__" : Str)) = false := by decide) :
    ME K X (.Call (.Name x p) (e :: es) [] pos) (fCall F fa) := by
  obtain ⟨u, y1, y2⟩ := y.ex
  exact ⟨_, fun i => pe_cal (C i) (hr i) (y1 i) (hg i) hd (y.st.1 _) (y.st.2.plain _ _), se_call y2⟩
theorem me_callB {x : Str} {id : String} {F : FN} {p : Pos} (q : QN K X (.builtin id) F) (hm : ∀ i, (X i).mg x = none) (hv : bootBuiltins x = some (.builtin id)) (y : MA K X (e :: es) fa) (hg : ∀ i, Gl (X i) x := by intro _; rfl) (hn : x ≠ "__name__" := by decide) (hd : (x == ("__debug__" : Str)) = false := by decide) :
    ME K X (.Call (.Name x p) (e :: es) [] pos) (fCall F fa) := by
  obtain ⟨r, q1, q2⟩ := q.ex; obtain ⟨u, y1, y2⟩ := y.ex
  exact ⟨_, fun i => pe_callB (q1 i) (hg i) (hm i) hv (y1 i) hn hd (y.st.1 _) (y.st.2.plain _ _), se_cb q2 y2⟩
theorem me_callT {x : Str} {id : String} {F : FN} {p : Pos} (q : QN K X (.type id) F) (hm : ∀ i, (X i).mg x = none) (hv : bootBuiltins x = some (.type id)) (y : MA K X (e :: es) fa) (hg : ∀ i, Gl (X i) x := by intro _; rfl) (hn : x ≠ "__name__" := by decide) (hd : (x == ("__debug__" : Str)) = false := by decide) :
    ME K X (.Call (.Name x p) (e :: es) [] pos) (fCall F fa) := by
  obtain ⟨r, q1, q2⟩ := q.ex; obtain ⟨u, y1, y2⟩ := y.ex
  exact ⟨_, fun i => pe_callTy (q1 i) (hg i) (hm i) hv (y1 i) hn hd (y.st.1 _) (y.st.2.plain _ _), se_cb q2 y2⟩
/-- isinstance(x, T) -/
theorem me_isi {T : String} {y : Str} {p p' : Pos} (hK : ∀ i, (X i).K = K) (hT : T ∈ asked) (x : ME K X a f) (hs : Star a [.Name y p']) (hm : ∀ i, (X i).mg "isinstance" = none) (hmy : ∀ i, (X i).mg y = none) (hb : bootBuiltins y = some (.type T)) (hg : ∀ i, Gl (X i) "isinstance" := by intro _; rfl) (hgy : ∀ i, Gl (X i) y := by intro _; rfl)
    (hn : y ≠ "__name__" := by decide) (hd : (y == ("__debug__" : Str)) = false := by decide) : ME K X (.Call (.Name "isinstance" p) [a, .Name y p'] [] pos) (fIsi T f) := by
  obtain ⟨t, x1, x2⟩ := x.ex
  refine ⟨_, fun i => pe_callB (kIsi (hK i)) (hg i) (hm i) boot_isinstance (pa_cons (x1 i) (pa_cons (pe_bltn (v := .ty T) (hgy i) (hmy i) hb rfl hn hd) pa_nil star_Name) (hs _)) (by decide) (by decide) (hs _) (plain_cons star_Name plain_nil), se_isi hT x2⟩
theorem me_isi2 {T U : String} {y z : Str} {p p' p'' p3 : Pos} {k : Nat} (hK : ∀ i, (X i).K = K) (hT : T ∈ asked) (hU : U ∈ asked) (x : ME K X a f) (hs : Star a [.Tuple [.Name y p', .Name z p''] k p3]) (hm : ∀ i, (X i).mg "isinstance" = none) (hmy : ∀ i, (X i).mg y = none) (hmz : ∀ i, (X i).mg z = none)
    (hb : bootBuiltins y = some (.type T)) (hbz : bootBuiltins z = some (.type U)) (hg : ∀ i, Gl (X i) "isinstance" := by intro _; rfl) (hgy : ∀ i, Gl (X i) y := by intro _; rfl) (hgz : ∀ i, Gl (X i) z := by intro _; rfl)
    (hn : y ≠ "__name__" := by decide) (hd : (y == ("__debug__" : Str)) = false := by decide) (hn' : z ≠ "__name__" := by decide) (hd' : (z == ("__debug__" : Str)) = false := by decide) : ME K X (.Call (.Name "isinstance" p) [a, .Tuple [.Name y p', .Name z p''] k p3] [] pos) (fIsi2 T U f) := by
  obtain ⟨t, x1, x2⟩ := x.ex
  refine ⟨_, fun i => pe_callB (kIsi2 (hK i)) (hg i) (hm i) boot_isinstance (pa_cons (x1 i) (pa_cons (pe_tup (pa_cons (pe_bltn (v := .ty T) (hgy i) (hmy i) hb rfl hn hd) (pa_cons (pe_bltn (v := .ty U) (hgz i) (hmz i) hbz rfl hn' hd') pa_nil star_Name) star_Name)) pa_nil star_Tuple) (hs _)) (by decide) (by decide) (hs _) (plain_cons star_Tuple plain_nil), se_isi2 hT hU x2⟩
/-! tests -/
theorem mt_not (x : MT K X a ft) : MT K X (.UnaryOp .Not a pos) (gNot ft) := by
  obtain ⟨t, x1, x2⟩ := x.ex
  exact ⟨_, fun i => pt_not (x1 i), st_not x2⟩
theorem mw_and {rest : List Expr} (x : MT K X a ft) (y : MW K X (.BoolOp .And (b :: rest) pos) gt) : MW K X (.BoolOp .And (a :: b :: rest) pos) (gAnd ft gt) := by
  obtain ⟨t, x1, x2⟩ := x.ex; obtain ⟨u, y1, y2⟩ := y.ex
  exact ⟨_, fun i => pw_and (x1 i) (y1 i), st_and x2 y2⟩
theorem mw_and1 (x : MT K X a ft) : MW K X (.BoolOp .And [a] pos) ft := by
  obtain ⟨t, x1, x2⟩ := x.ex
  exact ⟨_, fun i => pw_and1 (x1 i), x2⟩
theorem mw_or {rest : List Expr} (x : MT K X a ft) (y : MW K X (.BoolOp .Or (b :: rest) pos) gt) : MW K X (.BoolOp .Or (a :: b :: rest) pos) (gOr ft gt) := by
  obtain ⟨t, x1, x2⟩ := x.ex; obtain ⟨u, y1, y2⟩ := y.ex
  exact ⟨_, fun i => pw_or (x1 i) (y1 i), st_or x2 y2⟩
theorem mw_or1 (x : MT K X a ft) : MW K X (.BoolOp .Or [a] pos) ft := by
  obtain ⟨t, x1, x2⟩ := x.ex
  exact ⟨_, fun i => pw_or1 (x1 i), x2⟩
theorem mt_w (x : MW K X a ft) : MT K X a ft := by
  obtain ⟨t, x1, x2⟩ := x.ex
  exact ⟨_, fun i => (x1 i).pt, x2⟩
theorem mt_cmp {op : CmpOp} {k : F2} (q : Q2 K X (compareOp op) k) (x : ME K X a f) (y : ME K X b g) (hm : behindInMarks op b = false := by rfl) : MT K X (.Compare a [op] [b] pos) (gB (fOp k f g)) := by
  obtain ⟨r, q1, q2⟩ := q.ex; obtain ⟨t, x1, x2⟩ := x.ex; obtain ⟨u, y1, y2⟩ := y.ex
  exact ⟨_, fun i => pt_cmpR (q1 i) (x1 i) (y1 i) hm, st_test (se_op q2 x2 y2)⟩
theorem mt_chain {op op' : CmpOp} {k k' : F2} (q : Q2 K X (compareOp op) k) (q' : Q2 K X (compareOp op') k') (x : ME K X a f) (y : ME K X b g) (z : ME K X c h) (hm : lastMarks [op, op'] [b, c] = false := by with_unfolding_all rfl) : MT K X (.Compare a [op, op'] [b, c] pos) (gB (fChain k k' f g h)) := by
  obtain ⟨r, q1, q2⟩ := q.ex; obtain ⟨r', q1', q2'⟩ := q'.ex; obtain ⟨t, x1, x2⟩ := x.ex; obtain ⟨u, y1, y2⟩ := y.ex; obtain ⟨v, z1, z2⟩ := z.ex
  exact ⟨_, fun i => pt_chain (q1 i) (q1' i) (x1 i) (y1 i) (z1 i) hm, st_test (se_chain q2 q2' x2 y2 z2)⟩
theorem mt_val (x : ME K X a f) (he : ∀ (env : Env) (whole : Sem Value), isTrue a env whole = (do let v ← whole; standAt a.pos; holding [v] (truthy v)) := by intro _ _; rfl) : MT K X a (gB f) := by
  obtain ⟨t, x1, x2⟩ := x.ex
  exact ⟨_, fun i => pt_val (x1 i) (he _), st_b x2⟩
theorem mt_tru (hK : ∀ i, (X i).K = K) (x : ME K X a f) (he : ∀ (env : Env) (whole : Sem Value), isTrue a env whole = (do let v ← whole; standAt a.pos; holding [v] (truthy v)) := by intro _ _; rfl) : MT K X a (gTru f) := by
  obtain ⟨t, x1, x2⟩ := x.ex
  exact ⟨_, fun i => pt_truK (hK i) (x1 i) (he _), st_truK x2⟩
/-! what is walked, targets -/
theorem mi_rng1 {tg : Expr} {p : Pos} (hm : ∀ i, (X i).mg "range" = none) (x : MA K X [a] fa) (hg : ∀ i, Gl (X i) "range" := by intro _; rfl) : MI K X tg (.Call (.Name "range" p) [a] [] pos) (fRng1 fa) := by
  obtain ⟨t, x1, x2⟩ := x.ex
  exact ⟨_, fun i => pi_range1 (hg i) (hm i) (x1 i) (x.st.1 _), si_rng1 x2⟩
theorem mi_rng2 {tg : Expr} {p : Pos} (hm : ∀ i, (X i).mg "range" = none) (x : MA K X [a, b] fa) (hg : ∀ i, Gl (X i) "range" := by intro _; rfl) : MI K X tg (.Call (.Name "range" p) [a, b] [] pos) (fRng2 fa) := by
  obtain ⟨t, x1, x2⟩ := x.ex
  exact ⟨_, fun i => pi_range2 (hg i) (hm i) (x1 i) (by rw [x.st.1, x.st.2.1]; rfl) (by rw [x.st.2.1]; rfl), si_rng2 x2⟩
theorem mi_seq {tg : Expr} (hK : ∀ i, (X i).K = K) (x : ME K X a f) : MI K X tg a (fItems f) := by
  obtain ⟨t, x1, x2⟩ := x.ex
  exact ⟨_, fun i => pi_seqK (hK i) (x1 i), si_seq x2⟩
theorem mg_name (i : Nat) {x : Str} (hN : ∀ j, (X j).N.Nodup) (hi : ∀ j, (X j).N[i]? = some x := by intro _; rfl) (hx : ∀ j, Loc (X j).env.scope x := by intro _; first | exact Or.inl rfl | exact Or.inr rfl) (hf : ∀ j, (X j).fn x = true ∨ (X j).env.scope.names.lookup x = some .local := by intro _; first | exact .inl rfl | exact .inr rfl) :
    MG K X (.Name x pos) (hName i) := ⟨_, fun j => pg_name (hN j) (hi j) (hx j) (hf j), sg_name⟩
theorem mgs_nil : MGs K X [] hNil := ⟨_, fun _ => pgs_nil, sgs_nil⟩
theorem mgs_cons {gf : GF} {gs : GsF} (x : MG K X e gf) (y : MGs K X es gs) (hs : ∀ env : Env, (assignEach (e :: es) env).map (·.2) = assign e env :: (assignEach es env).map (·.2) := by intro _; rfl) : MGs K X (e :: es) (hCons gf gs) := by
  obtain ⟨t, x1, x2⟩ := x.ex; obtain ⟨u, y1, y2⟩ := y.ex
  exact ⟨_, fun i => pgs_cons (x1 i) (y1 i) (hs _), sgs_cons x2 y2⟩
theorem mg_tup {gs : GsF} {k n : Nat} (hK : ∀ i, (X i).K = K) (hc : ∀ i, (X i).calm = true) (x : MGs K X es gs) (hn : ∀ env : Env, (assignEach es env).length = n := by intro _; rfl) (hst : ∀ env : Env, (assignEach es env).findIdx? (·.1) = none := by intro _; rfl) : MG K X (.Tuple es k pos) (hTup n gs) := by
  obtain ⟨t, x1, x2⟩ := x.ex
  exact ⟨_, fun i => pg_tupK (hK i) (hc i) (x1 i) (hn _) (hst _), sg_tup x2⟩
theorem mg_sub {s : F3} (q : QS K X s) (x : ME K X a f) (y : ME K X b g) (hs : ∀ (env : Env) (v : Value), assign (.Subscript a b pos) env v = (do
      let ov ← holding [v] (eval a env)
      let iv ← holding [v, ov] (eval b env)
      standAt pos
      holding [v, ov, iv] (setItem ov iv v)
      release [v, ov, iv] []) := by intro _ _; rfl) : MG K X (.Subscript a b pos) (hSub f g s) := by
  obtain ⟨r, q1, q2⟩ := q.ex; obtain ⟨t, x1, x2⟩ := x.ex; obtain ⟨u, y1, y2⟩ := y.ex
  exact ⟨_, fun i => pg_sub (x1 i) (y1 i) (q1 i) (hs _), sg_sub q2 x2 y2⟩
theorem mf_nil : MF K X [] gYes := ⟨_, fun _ => pifs_nil, st_yes⟩
theorem mf_one (x : MT K X c ft) : MF K X [c] ft := by
  obtain ⟨t, x1, x2⟩ := x.ex
  exact ⟨_, fun i => pifs_one (x1 i), x2⟩
/-! comprehensions -/
abbrev LcI (ι : Type) : Type := ι × Addr × Shared × Hp × List Addr × List (Addr × Obj)
def lcFam (X : ι → Cx) (N' : List Str) (scope : Scope) : LcI ι → Cx := fun j => lcCx (X j.1) N' scope j.2.1 j.2.2.1 j.2.2.2.1 j.2.2.2.2.1 j.2.2.2.2.2
variable {N' : List Str} {cap : List (Option Nat)} {scope : Scope} {tg iter elt : Expr} {ifs : List Expr} {gf : GF}
theorem me_lc (hc : ∀ i, (X i).calm = true) (S : ∀ i, LcSc (X i) N' cap scope) (x : MI K X tg iter fa) (y : MG K (lcFam X N' scope) tg gf) (z : MF K (lcFam X N' scope) ifs ft) (w : ME K (lcFam X N' scope) elt f) (hs : ∀ (env : Env) (x : Value), foldedSetIterable iter env x = pure x := by intro _ _; rfl) :
    ME K X (.ListComp elt [⟨tg, iter, ifs, 0⟩] scope pos) (fLc cap fa gf ft f) := by
  obtain ⟨t, x1, x2⟩ := x.ex; obtain ⟨u, y1, y2⟩ := y.ex; obtain ⟨v, z1, z2⟩ := z.ex; obtain ⟨o, w1, w2⟩ := w.ex
  exact ⟨_, fun i => pe_lc (hc i) (S i) (x1 i) (fun C s H fp pn => y1 (i, C, s, H, fp, pn)) (fun C s H fp pn => z1 (i, C, s, H, fp, pn)) (fun C s H fp pn => w1 (i, C, s, H, fp, pn)) (hs _), se_lc x2 y2 z2 w2⟩
theorem me_lcN (hc : ∀ i, (X i).calm = true) (S : ∀ i, LcSc (X i) N' cap scope) (x : MI K X tg iter fa) (y : MG K (lcFam X N' scope) tg gf) (z : MF K (lcFam X N' scope) ifs ft) (w : ME K (lcFam X N' scope) elt f) (hs : ∀ (env : Env) (x : Value), foldedSetIterable iter env x = pure x := by intro _ _; rfl) :
    ME K X (.ListComp elt [⟨tg, iter, ifs, 0⟩] scope pos) (fLcN cap fa gf ft f) := by
  obtain ⟨t, x1, x2⟩ := x.ex; obtain ⟨u, y1, y2⟩ := y.ex; obtain ⟨v, z1, z2⟩ := z.ex; obtain ⟨o, w1, w2⟩ := w.ex
  exact ⟨_, fun i => pe_lc (hc i) (S i) (x1 i) (fun C s H fp pn => y1 (i, C, s, H, fp, pn)) (fun C s H fp pn => z1 (i, C, s, H, fp, pn)) (fun C s H fp pn => w1 (i, C, s, H, fp, pn)) (hs _), se_lcN x2 y2 z2 w2⟩
theorem ms_setLc (i : Nat) {x' : Str} {pos' pos'' : Pos} (hN : ∀ j, (X j).N.Nodup) (hc : ∀ i, (X i).calm = true) (S : ∀ i, LcSc (X i) N' cap scope) (x : MI K X tg iter fa) (y : MG K (lcFam X N' scope) tg gf) (z : MF K (lcFam X N' scope) ifs ft) (w : ME K (lcFam X N' scope) elt f)
    (hix : ∀ j, (X j).N[i]? = some x' := by intro _; rfl) (hsw : ∀ j, swapsWith (.ListComp elt [⟨tg, iter, ifs, 0⟩] scope pos) (some (.Name x' pos')) pos''.line (X j).env = pure true := by intro _; rfl) (hx : ∀ j, (X j).env.scope.names.lookup x' = some .local := by intro _; rfl) (hs : ∀ (env : Env) (x : Value), foldedSetIterable iter env x = pure x := by intro _ _; rfl) :
    MS K X (.Assign [.Name x' pos'] (.ListComp elt [⟨tg, iter, ifs, 0⟩] scope pos) pos'') (sAsg (fLc cap fa gf ft f) (hName i)) := by
  obtain ⟨t, x1, x2⟩ := x.ex; obtain ⟨u, y1, y2⟩ := y.ex; obtain ⟨v, z1, z2⟩ := z.ex; obtain ⟨o, w1, w2⟩ := w.ex
  exact ⟨_, fun j => ps_setLc (hN j) (hix j) (hc j) (S j) (x1 j) (fun C s H fp pn => y1 (j, C, s, H, fp, pn)) (fun C s H fp pn => z1 (j, C, s, H, fp, pn)) (fun C s H fp pn => w1 (j, C, s, H, fp, pn)) (hsw j) (hx j) (hs _), ss_asg (se_lc x2 y2 z2 w2) sg_name⟩
theorem ms_setLcN (i : Nat) {x' : Str} {pos' pos'' : Pos} (hN : ∀ j, (X j).N.Nodup) (hc : ∀ i, (X i).calm = true) (S : ∀ i, LcSc (X i) N' cap scope) (x : MI K X tg iter fa) (y : MG K (lcFam X N' scope) tg gf) (z : MF K (lcFam X N' scope) ifs ft) (w : ME K (lcFam X N' scope) elt f)
    (hix : ∀ j, (X j).N[i]? = some x' := by intro _; rfl) (hsw : ∀ j, swapsWith (.ListComp elt [⟨tg, iter, ifs, 0⟩] scope pos) (some (.Name x' pos')) pos''.line (X j).env = pure true := by intro _; rfl) (hx : ∀ j, (X j).env.scope.names.lookup x' = some .local := by intro _; rfl) (hs : ∀ (env : Env) (x : Value), foldedSetIterable iter env x = pure x := by intro _ _; rfl) :
    MS K X (.Assign [.Name x' pos'] (.ListComp elt [⟨tg, iter, ifs, 0⟩] scope pos) pos'') (sAsg (fLcN cap fa gf ft f) (hName i)) := by
  obtain ⟨t, x1, x2⟩ := x.ex; obtain ⟨u, y1, y2⟩ := y.ex; obtain ⟨v, z1, z2⟩ := z.ex; obtain ⟨o, w1, w2⟩ := w.ex
  exact ⟨_, fun j => ps_setLc (hN j) (hix j) (hc j) (S j) (x1 j) (fun C s H fp pn => y1 (j, C, s, H, fp, pn)) (fun C s H fp pn => z1 (j, C, s, H, fp, pn)) (fun C s H fp pn => w1 (j, C, s, H, fp, pn)) (hsw j) (hx j) (hs _), ss_asg (se_lcN x2 y2 z2 w2) sg_name⟩
/-! statements -/
variable {st : Stmt} {sts : List Stmt} {sf sg : SF}
theorem ml_nil : ML K X [] sNext := ⟨_, fun _ => pss_nil, ss_next⟩
theorem ml_one (x : MS K X st sf) : ML K X [st] sf := by
  obtain ⟨t, x1, x2⟩ := x.ex
  exact ⟨_, fun i => pss_one (x1 i), x2⟩
theorem ml_cons (x : MS K X st sf) (y : ML K X sts sg) : ML K X (st :: sts) (sSeq sf sg) := by
  obtain ⟨t, x1, x2⟩ := x.ex; obtain ⟨u, y1, y2⟩ := y.ex
  exact ⟨_, fun i => pss_cons (x1 i) (y1 i), ss_seq x2 y2⟩
theorem ms_ret (x : ME K X e f) : MS K X (.Return (some e) pos) (sRet f) := by
  obtain ⟨t, x1, x2⟩ := x.ex
  exact ⟨_, fun i => ps_ret (x1 i), ss_ret x2⟩
theorem ms_retN : MS K X (.Return none pos) sRetN := ⟨_, fun _ => ps_retN, ss_retN⟩
theorem ms_pass : MS K X (.Pass pos) sNext := ⟨_, fun _ => ps_pass, ss_next⟩
theorem ms_break : MS K X (.Break pos) sBreak := ⟨_, fun _ => ps_break, ss_break⟩
theorem ms_continue : MS K X (.Continue pos) sCont := ⟨_, fun _ => ps_continue, ss_cont⟩
/-- what never comes -/
def sNever : SF := fun _ _ => none
theorem ms_never : MS K X st sNever := ⟨tNever, fun _ => ps_never, fun _ _ _ _ h => by cases h⟩
theorem ms_expr (x : ME K X e f) (hs : ∀ i, swapsWith e none pos.line (X i).env = pure false := by intro _; rfl) : MS K X (.Expr e pos) (sDrop f) := by
  obtain ⟨t, x1, x2⟩ := x.ex
  exact ⟨_, fun i => ps_expr (x1 i) (hs i), ss_drop x2⟩
theorem ms_if {sts' : List Stmt} (x : MT K X c ft) (y : ML K X sts sf) (z : ML K X sts' sg) : MS K X (.If c sts sts' pos) (sIf ft sf sg) := by
  obtain ⟨t, x1, x2⟩ := x.ex; obtain ⟨u, y1, y2⟩ := y.ex; obtain ⟨v, z1, z2⟩ := z.ex
  exact ⟨_, fun i => ps_if (x1 i) (y1 i) (z1 i), ss_if x2 y2 z2⟩
theorem ms_while (hp : ∀ i, PassesOwn (model (X i).prog (X i).w) (X i).A (X i).env (X i).xe) (x : MT K X c ft) (y : ML K X sts sf) : MS K X (.While c sts [] pos) (sWhile ft sf) := by
  obtain ⟨t, x1, x2⟩ := x.ex; obtain ⟨u, y1, y2⟩ := y.ex
  exact ⟨_, fun i => ps_while (hp i) (x1 i) (y1 i), ss_while x2 y2⟩
theorem ms_for (hp : ∀ i, PassesOwn (model (X i).prog (X i).w) (X i).A (X i).env (X i).xe) (hc : ∀ i, (X i).calm = true) (x : MI K X tg iter fa) (y : MG K X tg gf) (z : ML K X sts sf) (hs : ∀ (env : Env) (x : Value), foldedSetIterable iter env x = pure x := by intro _ _; rfl) : MS K X (.For tg iter sts [] pos) (sFor fa gf sf) := by
  obtain ⟨t, x1, x2⟩ := x.ex; obtain ⟨u, y1, y2⟩ := y.ex; obtain ⟨v, z1, z2⟩ := z.ex
  exact ⟨_, fun i => ps_for (hp i) (hc i) (x1 i) (y1 i) (z1 i) (hs _), ss_for x2 y2 z2⟩
theorem ms_set (i : Nat) {x' : Str} {pos' : Pos} (hN : ∀ j, (X j).N.Nodup) (x : ME K X e f) (hi : ∀ j, (X j).N[i]? = some x' := by intro _; rfl) (hx : ∀ j, Loc (X j).env.scope x' := by intro _; first | exact Or.inl rfl | exact Or.inr rfl) (hs : ∀ j, swapsWith e (some (.Name x' pos')) pos.line (X j).env = pure false := by intro _; rfl)
    (hf : ∀ j, (X j).fn x' = true ∨ (X j).env.scope.names.lookup x' = some .local := by intro _; first | exact .inl rfl | exact .inr rfl) : MS K X (.Assign [.Name x' pos'] e pos) (sAsg f (hName i)) := by
  obtain ⟨t, x1, x2⟩ := x.ex
  exact ⟨_, fun j => ps_set (hN j) (hi j) (hx j) (x1 j) (hs j) (hf j), ss_asg x2 sg_name⟩
theorem ms_par (i j : Nat) {x' y' : Str} {px py pt pt2 : Pos} {kt k2 : Nat} (hc : ∀ j, (X j).calm = true) (hN : ∀ j, (X j).N.Nodup) (x : MA K X [a, b] fa) (hij : i ≠ j := by decide) (hi : ∀ k, (X k).N[i]? = some x' := by intro _; rfl) (hj : ∀ k, (X k).N[j]? = some y' := by intro _; rfl) (hx : ∀ k, (X k).env.scope.names.lookup x' = some .local := by intro _; rfl) (hy : ∀ k, (X k).env.scope.names.lookup y' = some .local := by intro _; rfl)
    (h1 : ∀ k, swappedStores [.Tuple [.Name x' px, .Name y' py] kt pt] (.Tuple [a, b] k2 pt2) (X k).env = pure (some [x', y']) := by intro _; rfl) (h2 : ∀ k, swapsWithSole [.Tuple [.Name x' px, .Name y' py] kt pt] (.Tuple [a, b] k2 pt2) pos.line (X k).env = pure false := by intro _; rfl) :
    MS K X (.Assign [.Tuple [.Name x' px, .Name y' py] kt pt] (.Tuple [a, b] k2 pt2) pos) (sPar i j fa) := by
  obtain ⟨t, x1, x2⟩ := x.ex
  exact ⟨_, fun k => ps_par (hc k) (hN k) (hi k) (hj k) hij (hx k) (hy k) (x1 k) (h1 k) (h2 k), ss_par x2⟩
theorem ms_asg (x : ME K X e f) (y : MG K X tg gf) (h1 : ∀ k, swapsWithSole [tg] e pos.line (X k).env = pure false := by intro _; rfl) (h2 : ∀ k, swappedStores [tg] e (X k).env = pure none := by intro _; rfl) (h3 : ∀ env : Env, (assignEach [tg] env).map (·.2) = [assign tg env] := by intro _; rfl) : MS K X (.Assign [tg] e pos) (sAsg f gf) := by
  obtain ⟨t, x1, x2⟩ := x.ex; obtain ⟨u, y1, y2⟩ := y.ex
  exact ⟨_, fun k => ps_asg (x1 k) (y1 k) (h1 k) (h2 k) (h3 _), ss_asg x2 y2⟩
theorem ms_aug (i : Nat) {x' : Str} {op : Operator} {k : F2} {pos' : Pos} (hN : ∀ j, (X j).N.Nodup) (q : QP K X op k) (x : ME K X e f) (hi : ∀ j, (X j).N[i]? = some x' := by intro _; rfl) (hx : ∀ j, Loc (X j).env.scope x' := by intro _; first | exact Or.inl rfl | exact Or.inr rfl)
    (hf : ∀ j, (X j).fn x' = true ∨ (X j).env.scope.names.lookup x' = some .local := by intro _; first | exact .inl rfl | exact .inr rfl) : MS K X (.AugAssign (.Name x' pos') op e pos) (sAug i f k) := by
  obtain ⟨r, q1, q2⟩ := q.ex; obtain ⟨t, x1, x2⟩ := x.ex
  exact ⟨_, fun j => ps_aug (hN j) (hi j) (hx j) (x1 j) (q1 j) (hf j), ss_aug q2 x2⟩
theorem ms_augS {op : Operator} {fg fo : F2} {fs : F3} {tpos : Pos} (q : QG K X fg) (q' : QP K X op fo) (q'' : QS K X fs) (x : ME K X a f) (y : ME K X b g) (z : ME K X c h)
    (hs : ∀ (ov iv new : Value), augStore b ov iv new = (do
      holding [new, ov, iv] (setItem ov iv new)
      release [new, ov, iv] []
      pure Flow.next) := by intro _ _ _; rfl) : MS K X (.AugAssign (.Subscript a b tpos) op c pos) (sAugS f g h fg fo fs) := by
  obtain ⟨r, q1, q2⟩ := q.ex; obtain ⟨r', q1', q2'⟩ := q'.ex; obtain ⟨r'', q1'', q2''⟩ := q''.ex
  obtain ⟨t, x1, x2⟩ := x.ex; obtain ⟨u, y1, y2⟩ := y.ex; obtain ⟨v, z1, z2⟩ := z.ex
  exact ⟨_, fun j => ps_augS (x1 j) (y1 j) (q1 j) (z1 j) (q1' j) (q1'' j) hs, ss_augS q2 q2' q2'' x2 y2 z2⟩
/-! primitives -/
theorem q_add (hK : ∀ i, (X i).K = K) : Q2 K X (binaryOp .Add) addX := ⟨_, fun i => kAdd (hK i), p2_addX⟩
theorem q_sub : Q2 K X (binaryOp .Sub) subI := ⟨_, fun _ => op_sub, p2_sub⟩
theorem q_mul : Q2 K X (binaryOp .Mult) mulI := ⟨_, fun _ => op_mulA, p2_mul⟩
theorem q_fdiv : Q2 K X (binaryOp .FloorDiv) fdivI := ⟨_, fun _ => op_fdivA, p2_fdiv⟩
theorem q_mod : Q2 K X (binaryOp .Mod) modI := ⟨_, fun _ => op_mod, p2_mod⟩
theorem q_pow : Q2 K X (binaryOp .Pow) powI := ⟨_, fun _ => op_pow, p2_pow⟩
theorem q_neg : Q1 K X (unaryOp .USub) negI := ⟨_, fun _ => un_neg, p1_neg⟩
theorem q_lt : Q2 K X (compareOp .Lt) ltI := ⟨_, fun _ => op_lt, p2_lt⟩
theorem q_le : Q2 K X (compareOp .LtE) leI := ⟨_, fun _ => op_le, p2_le⟩
theorem q_gt : Q2 K X (compareOp .Gt) gtI := ⟨_, fun _ => op_gt, p2_gt⟩
theorem q_ge : Q2 K X (compareOp .GtE) geI := ⟨_, fun _ => op_ge, p2_ge⟩
theorem q_eq (hK : ∀ i, (X i).K = K) (hu : ∀ i, (X i).A.units + 64 < cLine) : Q2 K X (compareOp .Eq) (eqX false) := ⟨_, fun i => kEq (hK i) (hu i), p2_eqX⟩
theorem q_ne (hK : ∀ i, (X i).K = K) (hu : ∀ i, (X i).A.units + 64 < cLine) : Q2 K X (compareOp .NotEq) (eqX true) := ⟨_, fun i => kNe (hK i) (hu i), p2_neX⟩
theorem q_in (hK : ∀ i, (X i).K = K) (hu : ∀ i, (X i).A.in1.units + 64 < cLine) : Q2 K X (compareOp .In) (inD false) := ⟨_, fun i => kIn (hK i) (hu i), p2_in⟩
theorem q_notIn (hK : ∀ i, (X i).K = K) (hu : ∀ i, (X i).A.in1.units + 64 < cLine) : Q2 K X (compareOp .NotIn) (inD true) := ⟨_, fun i => kNotIn (hK i) (hu i), p2_in⟩
theorem q_ix (hK : ∀ i, (X i).K = K) : QI K X ixF := ⟨_, fun i => kIx (hK i), p2_ixK⟩
theorem q_len (hK : ∀ i, (X i).K = K) : QN K X (.builtin "len") lenF := ⟨_, fun i => kLen (hK i), pn_lenK⟩
theorem q_list (hK : ∀ i, (X i).K = K) : QN K X (.type "list") listF := ⟨_, fun i => kList (hK i), pn_listK⟩
theorem q_tuple (hK : ∀ i, (X i).K = K) : QN K X (.type "tuple") tupleF := ⟨_, fun i => kTuple (hK i), pn_tupleK⟩
theorem q_all (hK : ∀ i, (X i).K = K) (hc : ∀ i, (X i).calm = true) : QN K X (.builtin "all") allF := ⟨_, fun i => kAll (hK i) (hc i), pn_allK⟩
theorem q_any (hK : ∀ i, (X i).K = K) (hc : ∀ i, (X i).calm = true) : QN K X (.builtin "any") anyF := ⟨_, fun i => kAny (hK i) (hc i), pn_anyK⟩
theorem q_set : QS K X setF := ⟨_, fun _ => set_list, p3_set⟩
end
/-! a def -/
section
variable {P : Program} {w : World} {K : PySem.W.Frag} {mg : Str → Option Value}
theorem Def.okG {base : Heap} {x : Str} {st : Stmt} {N ps : List Str} {k : Nat} {b : SF} (D : Def K mg x st) (S : FnScope N ps (defScope st))
    (hb : ∀ (kV doc pm : Value) (an : Option Addr) (cdv ct : Value) (us : List Value), us.length = ps.length → bindArgs (PySem.W.fnOf x x (defArgs st) (defBody st) (defScope st) .none kV doc pm an cdv ct) ⟨us, []⟩ = pure (ps.zip us))
    (hbody : ∀ (f : Addr) (cdv : Value) (A : Around) (outer : List Env) (s : Shared) (H : Hp) (E : XK), Room k (A.deeper (envOfC x (defScope st) s.heap.objs.size f cdv)) →
      ML K (fun _ : Unit => (cxOf CX0 P w K mg base N x (defScope st) f cdv A outer s H E).nox) (defBody st) b) : Callee P w K mg base (k + 1) x ps (spM K (fnF ps.length N.length b)) :=
  D.okM S hb fun f cdv A outer s H E hr => by
    obtain ⟨t, h1, h2⟩ := (hbody f cdv A outer s H E hr).ex
    exact ⟨t, h1 (), h2⟩
theorem Def.okLG {x p : Str} {st : Stmt} {N : List Str} {k : Nat} {b : SF} {F : FN} (D : Def K mg x st) (S : FnScope N [p] (defScope st)) (hF : F = fnF 1 N.length b)
    (hb : ∀ (kV doc pm : Value) (an : Option Addr) (cdv ct : Value) (us : List Value), us.length = [p].length → bindArgs (PySem.W.fnOf x x (defArgs st) (defBody st) (defScope st) .none kV doc pm an cdv ct) ⟨us, []⟩ = pure ([p].zip us))
    (hbody : ∀ (base : Heap) (f : Addr) (cdv : Value) (A : Around) (outer : List Env) (s : Shared) (H : Hp) (E : XK), Room k (A.deeper (envOfC x (defScope st) s.heap.objs.size f cdv)) →
      ML K (fun _ : Unit => (cxOf CX0 P w K mg base N x (defScope st) f cdv A outer s H E).nox) (defBody st) b) :
    ∃ f fd, mg x = some (.ref f) ∧ (∀ (s : Shared) (u : Value), BindsTo s fd ⟨[u], []⟩ [(p, u)]) ∧ ∀ base, FnOk P w K mg base CX0 (k + 1) f fd [p] (spM K F) :=
  D.okL S hF hb fun base f cdv A outer s H E hr => by
    obtain ⟨t, h1, h2⟩ := (hbody base f cdv A outer s H E hr).ex
    exact ⟨t, h1 (), h2⟩
end
end L2

end

section
set_option Elab.async false
set_option linter.all false
set_option maxRecDepth 100000
set_option maxHeartbeats 4000000
namespace HT
open PySem PyProof.Rows PySem.Spec
section
variable {prog : Program} {w : World} {A : Around} {E : Value → Shared → Prop} {s : Shared}
/-- the whole of a tuple is itself -/
theorem getItem_tuple_whole {t sl : Addr} {items : Array Value} {vl vu : Value} {lo hi : Option Int} {Q : Value → Shared → Prop} (ht : IsTup s.heap t items) (hs : s.heap.IsSliceOf sl vl vu .none) (pl : IsPart vl lo) (pu : IsPart vu hi)
    (hw : sIx items.size 0 lo = 0 ∧ sIx items.size items.size hi = items.size) (h : Q (.ref t) s) : wpAny (model prog w) A (getItem (.ref t) (.ref sl)) Q E s := by
  obtain ⟨os, hos, hcs, hds⟩ := id hs
  have hTs : s.TypeIs (.ref sl) "slice" := ⟨os, hos, hcs⟩
  unfold getItem
  try with_reducible refine wpAny_holding ?_
  first | refine wpAny_bind (wpAny_pure ?_) | skip
  refine wpAny_bind (wpAny_sequenceKey ht.typeIs (by decide) ?_)
  refine wpAny_bind (wpAny_callSpecial?_slot (name := Str.ofString "__getitem__") ht.typeIs PyProof.Rows.slot_tuple_getitem
    (wpAny_call_entry PyProof.Rows.slot_tuple_getitem ht.typeIs entry_tuple_getitem ?_ (args_tuple_getitem _ _)))
  show wpAny _ _ (Builtin.Tuple.tupleItemsOf (.ref t) >>= _) _ _ s
  refine wpAny_bind (tupleItemsOf_ ht ?_)
  refine wpAny_bind (wpAny_typeOf hTs ?_)
  rw [if_pos (by decide)]
  refine wpAny_bind (sliceApplied_gen hs pl pu ?_)
  have hyes : (((sIx items.size 0 lo : Nat) : Int) == 0 && (1 : Int) == 1 && (sIx items.size items.size hi - sIx items.size 0 lo) == items.size) = true := by
    rw [hw.1, hw.2]; simp
  show wpAny _ _ (if (((sIx items.size 0 lo : Nat) : Int) == 0 && (1 : Int) == 1 && (sIx items.size items.size hi - sIx items.size 0 lo) == items.size) = true then _ else _) _ _ s
  rw [if_pos hyes]
  refine wpAny_bind (m := Builtin.Tuple.tupleIsExact (.ref t)) ?_
  unfold Builtin.Tuple.tupleIsExact
  refine wpAny_bind (wpAny_typeOf ht.typeIs (wpAny_pure ?_))
  rw [if_pos (by decide)]
  exact wpAny_bind (wpAny_rule (wpAny_pure ⟨_, rfl, wpAny_pure h⟩))
end
end HT
namespace L2
open PySem PySem.Spec PyProof.Rows
def rSlW (K : PySem.W.Frag) : V → Option Int → Option Int → Hp → VK → Prop := fun x lo hi H Q => ∃ a xs, x = .ref a ∧ SqT K H a xs ∧ (HT.sIx xs.length 0 lo = 0 ∧ HT.sIx xs.length xs.length hi = xs.length) ∧ Q (.ref a) H
theorem sl_whole {X : Cx} : SlR X (rSlW X.K) := by
  intro pins s σ H x v vl vu lo hi sl Q I rx hs pl pu h
  obtain ⟨a, xs, rfl, hx, hw, q⟩ := h
  cases rx
  obtain ⟨its, r, ht, hz⟩ := I.tuple hx
  have hlen : its.toArray.size = xs.length := by rw [List.size_toArray]; exact r.length.symm
  refine ⟨"tuple", _, PyProof.Rows.slot_tuple_getitem.lookup, ht.typeIs, ?_⟩
  exact HT.getItem_tuple_whole ht hs pl pu (by rw [hlen]; exact hw) ⟨.ref a, H, I, rfl, q⟩

/-! ### slices -/
def cutL {α : Type} (xs : List α) (lo hi : Option Int) : List α := (xs.drop (HT.sIx xs.length 0 lo)).take (HT.sIx xs.length xs.length hi - HT.sIx xs.length 0 lo)
abbrev OF := Ga → Sto → Option (Option Int × Sto)
def fNoPart : OF := fun _ M => some (none, M)
def asI : CD → Option Int
  | .d (.int i) => some i
  | _ => none
def fPart (f : EF) : OF := fun γ M => (f γ M).bind fun r => (asI r.1).bind fun i => some (some i, r.2)
def slF (x : CD) (lo hi : Option Int) (M : Sto) : Option (CD × Sto) := match x with
  | .d (.list ds) => some (.d (.list (cutL ds lo hi)), M)
  | .d (.tuple ds) => some (.d (.tuple (cutL ds lo hi)), M)
  | .c i => match M[i]? with
    | some (.lst xs) => (allD (cutL xs lo hi)).bind fun ds => some (.d (.list ds), M)
    | _ => none
  | _ => none
def fSl (f : EF) (l u : OF) : EF := fun γ M => (f γ M).bind fun r => (l γ r.2).bind fun p => (u γ p.2).bind fun q => slF r.1 p.1 q.1 q.2
def rSlX (K : PySem.W.Frag) : V → Option Int → Option Int → Hp → VK → Prop := fun x lo hi H Q => rSlL K x lo hi H Q ∨ rSlT K x lo hi H Q ∨ rSlW K x lo hi H Q
theorem kSl {X : Cx} {K : PySem.W.Frag} (h : X.K = K) : SlR X (rSlX K) := by subst h; exact sl_list.or (sl_tup.or sl_whole)
section
variable {K : PySem.W.Frag}
def SO (K : PySem.W.Frag) (t : TO) (f : OF) : Prop := ∀ γ M b M', f γ M = some (b, M') → ∀ (W : Wd) (H : Hp) (σ : St) (Q : Option Int → Hp → Prop), Good K W M H → RepS K W γ σ → (∀ W' H', W.Ext W' → Good K W' M' H' → Q b H') → t σ H Q
theorem so_none : SO K tNoPart fNoPart := by
  intro γ M x M' hh W H σ Q G R k
  cases hh
  exact k W H (.refl _) G
theorem asI_of {x : CD} {i : Int} (h : asI x = some i) : x = .d (.int i) := by
  cases x with
  | c n => cases h
  | d x => cases x <;> first | cases h; rfl | cases h
theorem so_part {ta : TE} {f : EF} (a : SE K ta f) : SO K (tPart ta) (fPart f) := by
  intro γ M x M' hh W H σ Q G R k
  obtain ⟨⟨y, M1⟩, h1, hh⟩ := bindE hh
  obtain ⟨i, h2, hh⟩ := bindE hh
  cases hh
  refine a _ _ _ _ h1 W H σ _ G R fun v W1 H1 e1 G1 r1 => ?_
  have hy : y = _ := asI_of h2
  subst hy
  exact ⟨i, r1, k W1 H1 e1 G1⟩
theorem RepAll.drop {H : Hp} : ∀ {ds : List PyData} {vs : List V} (n : Nat), RepAll K H ds vs → RepAll K H (ds.drop n) (vs.drop n)
  | _, _, 0, h => h
  | [], vs, n + 1, h => by rw [show vs = [] from h]; rfl
  | d :: ds, vs, n + 1, h => by
    obtain ⟨v, r, rfl, _, h3⟩ := h
    exact RepAll.drop n h3
theorem RepAll.take {H : Hp} : ∀ {ds : List PyData} {vs : List V} (n : Nat), RepAll K H ds vs → RepAll K H (ds.take n) (vs.take n)
  | _, _, 0, h => rfl
  | [], vs, n + 1, h => by rw [show vs = [] from h]; rfl
  | d :: ds, vs, n + 1, h => by
    obtain ⟨v, r, rfl, h2, h3⟩ := h
    exact ⟨v, r.take n, rfl, h2, RepAll.take n h3⟩
theorem RepAll.cut {H : Hp} {ds : List PyData} {vs : List V} (h : RepAll K H ds vs) (lo hi : Option Int) : RepAll K H (cutL ds lo hi) (cutV vs lo hi) := by
  unfold cutL cutV
  rw [h.length]
  exact (h.drop _).take _
theorem PairedDrop {α β : Type} {R : α → β → Prop} : ∀ {xs : List α} {ys : List β} (n : Nat), Paired R xs ys → Paired R (xs.drop n) (ys.drop n)
  | _, _, 0, h => h
  | _, _, _ + 1, .nil => .nil
  | _, _, n + 1, .cons _ t => PairedDrop n t
theorem PairedTake {α β : Type} {R : α → β → Prop} : ∀ {xs : List α} {ys : List β} (n : Nat), Paired R xs ys → Paired R (xs.take n) (ys.take n)
  | _, _, 0, h => .nil
  | _, _, _ + 1, .nil => .nil
  | _, _, n + 1, .cons r t => .cons r (PairedTake n t)
theorem PairedCut {W : Wd} {xs : List CD} {vs : List V} (h : RepVs K W xs vs) (lo hi : Option Int) : RepVs K W (cutL xs lo hi) (cutV vs lo hi) := by
  unfold cutL cutV
  rw [Paired.len h]
  exact PairedTake _ (PairedDrop _ h)
theorem sl_sound {x : CD} {lo hi : Option Int} {M : Sto} {z : CD} {M' : Sto} (h : slF x lo hi M = some (z, M')) {W : Wd} {H : Hp} {v : V} {Q : VK} (G : Good K W M H) (rx : RepV K W x v) (k : ∀ w W' H', W.Ext W' → Good K W' M' H' → RepV K W' z w → Q w H') : rSlX K v lo hi H Q := by
  unfold slF at h
  split at h
  · rename_i ds
    cases h
    obtain ⟨p, us, rfl, hq, hr⟩ := (show ∃ a us, _ = V.ref a ∧ SqL K W.F a us ∧ RepAll K W.F ds us from rx)
    refine .inl ⟨p, us, rfl, G.fh.seq hq, fun l hl => ?_⟩
    obtain ⟨e2, G2⟩ := G.lay (o := .lst (cutV us lo hi)) hl
    exact k _ _ _ e2 G2 ⟨l, _, rfl, SqL.of upd_same, RepAll.same e2.ff _ _ (hr.cut lo hi)⟩
  · rename_i ds
    cases h
    obtain ⟨p, us, rfl, hq, hr⟩ := (show ∃ a us, _ = V.ref a ∧ SqT K W.F a us ∧ RepAll K W.F ds us from rx)
    by_cases hw : HT.sIx us.length 0 lo = 0 ∧ HT.sIx us.length us.length hi = us.length
    · refine .inr (.inr ⟨p, us, rfl, G.fh.seqT hq, hw, ?_⟩)
      have e : cutL ds lo hi = ds := by
        unfold cutL
        rw [hr.length, hw.1, hw.2, ← hr.length]
        simp
      rw [e] at k
      exact k _ W H (.refl _) G ⟨p, us, rfl, hq, hr⟩
    · refine .inr (.inl ⟨p, us, rfl, G.fh.seqT hq, hw, fun l hl => ?_⟩)
      obtain ⟨e2, G2⟩ := G.lay (o := .tup (cutV us lo hi)) hl
      exact k _ _ _ e2 G2 ⟨l, _, rfl, SqT.of upd_same, RepAll.same e2.ff _ _ (hr.cut lo hi)⟩
  · rename_i i
    split at h
    · rename_i xs hx
      obtain ⟨ds, h1, h⟩ := bindE h
      cases h
      obtain ⟨us, hv, hr⟩ := G.lstAt hx
      rw [rx.2]
      refine .inl ⟨_, us, rfl, SqL.of hv, fun l hl => ?_⟩
      obtain ⟨e2, G2⟩ := G.lay (o := .lst (cutV us lo hi)) hl
      exact k _ _ _ e2 G2 ⟨l, _, rfl, SqL.of upd_same, RepAll.same e2.ff _ _ (repAll_of h1 (PairedCut hr lo hi))⟩
    · cases h
  · cases h
theorem se_sl {ta : TE} {f : EF} {tl th : TO} {l u : OF} (a : SE K ta f) (b : SO K tl l) (c : SO K th u) : SE K (tSl (rSlX K) ta tl th) (fSl f l u) := by
  intro γ M x M' hh W H σ Q G R k
  obtain ⟨⟨y, M1⟩, h1, hh⟩ := bindE hh
  obtain ⟨⟨p, M2⟩, h2, hh⟩ := bindE hh
  obtain ⟨⟨q, M3⟩, h3, hh⟩ := bindE hh
  refine a _ _ _ _ h1 W H σ _ G R fun v W1 H1 e1 G1 r1 => ?_
  refine b _ _ _ _ h2 W1 H1 σ _ G1 (R.up e1) fun W2 H2 e2 G2 => ?_
  refine c _ _ _ _ h3 W2 H2 σ _ G2 (R.up (e1.trans e2)) fun W3 H3 e3 G3 => ?_
  exact sl_sound hh G3 (r1.up (e2.trans e3)) fun w W4 H4 e4 G4 r4 => k w W4 H4 (((e1.trans e2).trans e3).trans e4) G4 r4
/-! ### int(x) -/
def intF : FN := fun xs M => match xs with
  | [.d (.int i)] => some (.d (.int i), M)
  | [.d (.bool b)] => some (.d (.int (if b then 1 else 0)), M)
  | _ => none
theorem pn_int : PN K (fun xs H Q => (∃ i, xs = [.int i] ∧ Q (.int i) H) ∨ ∃ k, xs = [.bl k] ∧ Q (.int (if k then 1 else 0)) H) intF := by
  intro xs M z M' h W H vs Q G r k
  unfold intF at h
  split at h
  · rename_i i
    cases h
    rcases r with _ | ⟨r1, _ | _⟩
    exact .inl ⟨i, by rw [show _ = V.int i from r1], k _ W H (.refl _) G rfl⟩
  · rename_i b
    cases h
    rcases r with _ | ⟨r1, _ | _⟩
    exact .inr ⟨b, by rw [show _ = V.bl b from r1], k _ W H (.refl _) G rfl⟩
  · cases h
/-! ### methods of a builtin -/
def tyB (T : String) (M : Sto) : CD → Bool
  | .d (.list _) => T == "list"
  | .d (.str _) => T == "str"
  | .c i => match M[i]? with
    | some (.lst _) => T == "list"
    | some (.dk _) => T == "dict"
    | some (.dt _) => T == "dict"
    | _ => false
  | _ => false
theorem tyB_of {T : String} {M : Sto} {x : CD} {W : Wd} {H : Hp} {v : V} (h : tyB T M x = true) (G : Good K W M H) (r : RepV K W x v) : tyV K T v H := by
  unfold tyB at h
  split at h
  · rename_i ds
    obtain ⟨p, us, rfl, hq, hr⟩ := (show ∃ a us, _ = V.ref a ∧ SqL K W.F a us ∧ RepAll K W.F ds us from r)
    exact .inl ⟨eq_of_beq h, us, G.fh.seq hq⟩
  · rename_i x
    rw [show v = .str x from r]
    exact eq_of_beq h
  · rename_i i
    rw [r.2]
    split at h
    · rename_i xs hx
      obtain ⟨us, hv, hr⟩ := G.lstAt hx
      exact .inl ⟨eq_of_beq h, us, SqL.of hv⟩
    · rename_i kvs hx
      obtain ⟨_, o, g2, g3⟩ := G.cs i _ hx (by intro z; cases z)
      cases o with
      | dK us => exact .inr (.inr (.inl ⟨eq_of_beq h, .inl ⟨us, g2⟩⟩))
      | _ => exact False.elim g3
    · rename_i kvs hx
      obtain ⟨_, o, g2, g3⟩ := G.cs i _ hx (by intro z; cases z)
      cases o with
      | dT us => exact .inr (.inr (.inl ⟨eq_of_beq h, .inr ⟨us, g2⟩⟩))
      | _ => exact False.elim g3
    · cases h
  · cases h
abbrev FM := CD → List CD → Sto → Option (CD × Sto)
def fMeth (T : String) (h : FM) (f : EF) (fa : AF) : EF := fun γ M => (f γ M).bind fun r => if tyB T r.2 r.1 = true then (fa γ r.2).bind fun q => h r.1 q.1 q.2 else none
def PM (K : PySem.W.Frag) (r : V → List V → Hp → VK → Prop) (f : FM) : Prop := ∀ x xs M z M', f x xs M = some (z, M') → ∀ (W : Wd) (H : Hp) (v : V) (vs : List V) (Q : VK), Good K W M H → RepV K W x v → RepVs K W xs vs → (∀ w W' H', W.Ext W' → Good K W' M' H' → RepV K W' z w → Q w H') → r v vs H Q
theorem se_meth {T : String} {r : V → List V → Hp → VK → Prop} {h : FM} {ta : TE} {f : EF} {tA : TA} {fa : AF} (p : PM K r h) (a : SE K ta f) (b : SA K tA fa) : SE K (tBM K T r ta tA) (fMeth T h f fa) := by
  intro γ M x M' hh W H σ Q G R k
  obtain ⟨⟨y, M1⟩, h1, hh⟩ := bindE hh
  by_cases hT : tyB T M1 y = true
  · have hh : (if tyB T M1 y = true then (fa γ M1).bind fun q => h y q.1 q.2 else none) = some (x, M') := hh
    rw [if_pos hT] at hh
    obtain ⟨⟨ys, M2⟩, h2, hh⟩ := bindE hh
    refine a _ _ _ _ h1 W H σ _ G R fun v W1 H1 e1 G1 r1 => ⟨tyB_of hT G1 r1, ?_⟩
    refine b _ _ _ _ h2 W1 H1 σ _ G1 (R.up e1) fun vs W2 H2 e2 G2 r2 => ?_
    exact p _ _ _ _ _ hh W2 H2 v vs Q G2 (r1.up e2) r2 fun w W3 H3 e3 G3 r3 => k w W3 H3 ((e1.trans e2).trans e3) G3 r3
  · have hh : (if tyB T M1 y = true then (fa γ M1).bind fun q => h y q.1 q.2 else none) = some (x, M') := hh
    rw [if_neg hT] at hh; cases hh
theorem se_meth0 {T : String} {r : V → List V → Hp → VK → Prop} {h : FM} {ta : TE} {f : EF} (p : PM K r h) (a : SE K ta f) : SE K (tBM0 K T r ta) (fMeth T h f fNil) := by
  intro γ M x M' hh W H σ Q G R k
  obtain ⟨⟨y, M1⟩, h1, hh⟩ := bindE hh
  have hh : (if tyB T M1 y = true then h y [] M1 else none) = some (x, M') := hh
  by_cases hT : tyB T M1 y = true
  · rw [if_pos hT] at hh
    refine a _ _ _ _ h1 W H σ _ G R fun v W1 H1 e1 G1 r1 => ⟨tyB_of hT G1 r1, ?_⟩
    exact p _ _ _ _ _ hh W1 H1 v [] Q G1 r1 .nil fun w W3 H3 e3 G3 r3 => k w W3 H3 (e1.trans e3) G3 r3
  · rw [if_neg hT] at hh; cases hh
def appendF : FM := fun x ys M => match x, ys with
  | .c i, [y] => match M[i]? with
    | some (.lst xs) => if xs.length < sizeLine then some (.d .none, M.set i (.lst (xs ++ [y]))) else none
    | _ => none
  | _, _ => none
theorem pm_append : PM K rAppend appendF := by
  intro x ys M z M' h W H v vs Q G rx rs k
  unfold appendF at h
  split at h
  · rename_i i y
    split at h
    · rename_i xs hx
      by_cases hl : xs.length < sizeLine
      · rw [if_pos hl] at h
        cases h
        obtain ⟨us, hv, hr⟩ := G.lstAt hx
        rcases rs with _ | ⟨r1, _ | _⟩
        refine ⟨W.α i, us, _, rx.2, rfl, hv, by rw [← Paired.len hr]; exact hl, ?_⟩
        exact k _ W _ (.refl _) (G.set hx (by intro q; cases q) (c' := .lst (xs ++ [y])) (show RepVs K W _ _ from Paired.app hr (.cons r1 .nil))) rfl
      · rw [if_neg hl] at h; cases h
    · cases h
  · cases h
def popF : FM := fun x ys M => match x, ys with
  | .c i, [] => match M[i]? with
    | some (.lst xs) => (xs[xs.length - 1]?).bind fun y => some (y, M.set i (.lst xs.dropLast))
    | _ => none
  | _, _ => none
theorem PairedDropLast {α β : Type} {R : α → β → Prop} {xs : List α} {ys : List β} (h : Paired R xs ys) : Paired R xs.dropLast ys.dropLast := by
  rw [List.dropLast_eq_take, List.dropLast_eq_take, Paired.len h]
  exact PairedTake _ h
theorem pm_pop : PM K rPop popF := by
  intro x ys M z M' h W H v vs Q G rx rs k
  unfold popF at h
  split at h
  · rename_i i
    split at h
    · rename_i xs hx
      obtain ⟨y, h1, h⟩ := bindE h
      cases h
      obtain ⟨us, hv, hr⟩ := G.lstAt hx
      obtain ⟨u, hu, ru⟩ := Paired.get hr h1
      cases rs
      refine ⟨W.α i, us, u, rx.2, rfl, hv, by rw [← Paired.len hr]; exact hu, ?_⟩
      exact k _ W _ (.refl _) (G.set hx (by intro q; cases q) (c' := .lst xs.dropLast) (show RepVs K W _ _ from PairedDropLast hr)) ru
    · cases h
  · cases h
end
/-! ### the rules -/
section
variable {ι : Type} {K : PySem.W.Frag} {X : ι → Cx} {a b c e o : Expr} {es : List Expr} {f g h : EF} {fa : AF} {pos : Pos}
structure MO (K : PySem.W.Frag) (X : ι → Cx) (e : Option Expr) (f : OF) : Prop where
  ex : ∃ t, (∀ i, PO (X i) e t) ∧ SO K t f
theorem mo_none : MO K X none fNoPart := ⟨_, fun _ => po_none, so_none⟩
theorem mo_some (x : ME K X e f) : MO K X (some e) (fPart f) := by
  obtain ⟨t, x1, x2⟩ := x.ex
  exact ⟨_, fun i => po_some (x1 i), so_part x2⟩
theorem me_sl {lo hi : Option Expr} {l u : OF} {p2 : Pos} (hK : ∀ i, (X i).K = K) (x : ME K X a f) (y : MO K X lo l) (z : MO K X hi u) : ME K X (.Subscript a (.Slice lo hi none p2) pos) (fSl f l u) := by
  obtain ⟨t, x1, x2⟩ := x.ex; obtain ⟨t', y1, y2⟩ := y.ex; obtain ⟨t'', z1, z2⟩ := z.ex
  exact ⟨_, fun i => pe_slice (kSl (hK i)) (x1 i) (y1 i) (z1 i), se_sl x2 y2 z2⟩
theorem q_int : QN K X (.type "int") intF := ⟨_, fun _ => call_int1, pn_int⟩
theorem me_append {apos cpos : Pos} (hK : ∀ i, (X i).K = K) (x : ME K X o f) (y : MA K X [e] fa) (hb : ∀ env : Env, attributeBase o "append" env (eval o env) = eval o env := by intro _; rfl) (hl : (apos.endLine == cpos.line) = true := by rfl) :
    ME K X (.Call (.Attribute o "append" apos) [e] [] cpos) (fMeth "list" appendF f fa) := by
  obtain ⟨t, x1, x2⟩ := x.ex; obtain ⟨u, y1, y2⟩ := y.ex
  refine ⟨_, fun i => ?_, se_meth pm_append x2 y2⟩
  have := pe_bm PySem.F.plainAttrs_list PySem.F.slot_list_append PySem.F.type_list_append mt_append (x1 i) (y1 i) (apos := apos) (cpos := cpos) (hb _) (by rw [y.st.1]; rfl) hl (y.st.1 _) (y.st.2.plain _ _)
  rw [hK i] at this
  exact this
theorem me_pop {apos cpos : Pos} (hK : ∀ i, (X i).K = K) (x : ME K X o f) (hb : ∀ env : Env, attributeBase o "pop" env (eval o env) = eval o env := by intro _; rfl) (hl : (apos.endLine == cpos.line) = true := by rfl) :
    ME K X (.Call (.Attribute o "pop" apos) [] [] cpos) (fMeth "list" popF f fNil) := by
  obtain ⟨t, x1, x2⟩ := x.ex
  refine ⟨_, fun i => ?_, se_meth0 pm_pop x2⟩
  have := pe_bm0 PySem.F.plainAttrs_list PySem.F.slot_list_pop PySem.F.type_list_pop mt_pop (x1 i) (apos := apos) (cpos := cpos) (hb _) hl
  rw [hK i] at this
  exact this
end
end L2

end

section
set_option Elab.async false
set_option linter.all false
set_option maxRecDepth 100000
set_option maxHeartbeats 4000000
namespace L2
open PySem PySem.Spec PyProof.Rows
/-! ### repr -/
def rRepr (K : PySem.W.Frag) : List V → Hp → VK → Prop := fun xs H Q => ∃ x d, xs = [x] ∧ Rep K H d x ∧ d.showable = true ∧ d.depth ≤ 64 ∧ d.shown.length ≤ sizeLine ∧ Q (.str d.shown) H
theorem kRepr {X : Cx} {K : PySem.W.Frag} (hK : X.K = K) (hg : X.A.guards = some []) (hu : X.A.units + 200 < cLine) : CallR X (.builtin "repr") (rRepr K) := by
  subst hK
  intro pins s σ H xs us Q I r h
  obtain ⟨x, d, rfl, hd, hs, hp, hz, q⟩ := h
  obtain ⟨u, rfl, ru⟩ := vals1 r
  have big : ∀ a, u = .ref a → wpAny (model X.prog X.w) X.A (call (.builtin "repr") [u]) (EP X pins σ Q) X.xe s := fun a e => by
    subst e
    obtain ⟨as, hr, hn⟩ := Rep.reads' I d x _ hd ru
    exact repr_of_reads' hr hs (fun _ => hn) hg (by omega) (fun _ _ e => e) (fun h' u' tk hk => ⟨.str d.shown, H, I.kept (h' := h') (t' := tk) hk, ⟨_, rfl⟩, q⟩) hz
  cases d with
  | none =>
    rw [show x = .non from hd] at ru
    cases (show u = Value.none from ru)
    exact PySem.P.repr_of_none ⟨.str _, H, I.tok _, ⟨_, rfl⟩, q⟩
  | bool b =>
    rw [show x = .bl b from hd] at ru
    cases (show u = Value.bool b from ru)
    refine PySem.P.repr_of_bool ⟨.str _, H, I.tok _, ⟨_, rfl⟩, ?_⟩
    cases b <;> exact q
  | int i =>
    rw [show x = .int i from hd] at ru
    obtain ⟨t, rfl⟩ := (show ∃ t, u = Value.int i t from ru)
    exact PySem.P.repr_of_int (of_decide_eq_true hs) ⟨.str _, H, I.tok _, ⟨_, rfl⟩, q⟩
  | str y =>
    rw [show x = .str y from hd] at ru
    obtain ⟨t, rfl⟩ := (show ∃ t, u = Value.str y t from ru)
    exact PySem.P.repr_of_str ⟨.str _, H, I.tok _, ⟨_, rfl⟩, q⟩ hz
  | list ds => obtain ⟨a, vs, e, _, _⟩ := hd; subst e; exact big a ru
  | tuple ds => obtain ⟨a, vs, e, _, _⟩ := hd; subst e; exact big a ru
  | dict ds => obtain ⟨a, vs, e, _, _⟩ := hd; subst e; exact big a ru
def shownOk (d : PyData) : Bool := d.showable && decide (d.depth ≤ 64) && decide (d.shown.length ≤ sizeLine)
def reprF : FN := fun xs M => match xs with
  | [.d x] => if shownOk x = true then some (.d (.str x.shown), M) else none
  | _ => none
theorem pn_repr {K : PySem.W.Frag} : PN K (rRepr K) reprF := by
  intro xs M z M' h W H vs Q G r k
  unfold reprF at h
  split at h
  · rename_i x
    by_cases hs : shownOk x = true
    · rw [if_pos hs] at h
      cases h
      rcases r with _ | ⟨r1, _ | _⟩
      unfold shownOk at hs
      rw [Bool.and_eq_true, Bool.and_eq_true] at hs
      exact ⟨_, x, rfl, Rep.same G.fh _ _ r1, hs.1.1, of_decide_eq_true hs.1.2, of_decide_eq_true hs.2, k _ W H (.refl _) G rfl⟩
    · rw [if_neg hs] at h; cases h
  · cases h
theorem q_repr {ι : Type} {K : PySem.W.Frag} {X : ι → Cx} (hK : ∀ i, (X i).K = K) (hg : ∀ i, (X i).A.guards = some []) (hu : ∀ i, (X i).A.units + 200 < cLine) : QN K X (.builtin "repr") reprF := ⟨_, fun i => kRepr (hK i) (hg i) (hu i), pn_repr⟩
theorem Room.u200 {k : Nat} {A : Around} (r : Room k A) : A.units + 200 < cLine := by have := r.un; omega
/-! ### a def by nothing -/
theorem Def.okNone {P : Program} {w : World} {K : PySem.W.Frag} {mg : Str → Option Value} {base : Heap} {x : Str} {st : Stmt} {N ps : List Str} {k : Nat} (D : Def K mg x st) (S : FnScope N ps (defScope st))
    (hb : ∀ (kV doc pm : Value) (an : Option Addr) (cdv ct : Value) (us : List Value), us.length = ps.length → bindArgs (PySem.W.fnOf x x (defArgs st) (defBody st) (defScope st) .none kV doc pm an cdv ct) ⟨us, []⟩ = pure (ps.zip us)) :
    Callee P w K mg base (k + 1) x ps (spM K fun _ _ => none) := by
  refine D.ok S hb (fun vs H Q E h => ?_) fun f cdv A outer s H vs Q E hr h => ?_
  · obtain ⟨xs, M, W, y, M', G, R, hf, _⟩ := h; cases hf
  · obtain ⟨xs, M, W, y, M', G, R, hf, _⟩ := h; cases hf
/-! ### {} and {k: v, ..} as data -/
theorem Good.freeze {K : PySem.W.Frag} {W : Wd} {M : Sto} {H : Hp} (g : Good K W M H) {i : Nat} {c : Cell} {o' : HO} (hi : M[i]? = some c) (hc : c ≠ .dead) :
    W.Ext { W with F := upd W.F (W.α i) o' } ∧ Good K { W with F := upd W.F (W.α i) o' } (M.set i .dead) (upd H (W.α i) o') := by
  obtain ⟨h1, o, h2, h3⟩ := g.cs i c hi hc
  have lt : i < M.length := (List.getElem?_eq_some_iff.mp hi).1
  have e : W.Ext { W with F := upd W.F (W.α i) o' } := ⟨Same.upd h1, Nat.le_refl _, fun _ _ => rfl⟩
  have at_ : ∀ j d, (M.set i .dead)[j]? = some d → d ≠ .dead → j ≠ i ∧ M[j]? = some d := fun j d h hd => by
    by_cases q : i = j
    · subst q; rw [List.getElem?_set_self lt] at h; exact absurd (Option.some.inj h).symm hd
    · rw [List.getElem?_set_ne q] at h; exact ⟨fun z => q z.symm, h⟩
  refine ⟨e, ?_, by show W.n = _; rw [g.n, List.length_set], fun j d hj hd => ?_, fun j k d1 d2 hj hk e1 e2 he => ?_⟩
  · intro b u hb
    have hb : upd W.F (W.α i) o' b = some u := hb
    by_cases q : b = W.α i
    · subst q; rw [upd_same] at hb; rw [upd_same]; exact hb
    · rw [upd_ne q] at hb; rw [upd_ne q]; exact g.fh b u hb
  · obtain ⟨q, h⟩ := at_ j d hj hd
    obtain ⟨k1, u, k2, k3⟩ := g.cs j d h hd
    have ne : W.α j ≠ W.α i := fun z => q (g.inj j i d c h hi hd hc z)
    exact ⟨by show upd W.F (W.α i) o' (W.α j) = none; rw [upd_ne ne]; exact k1, u, by rw [upd_ne ne]; exact k2, k3.up e⟩
  · exact g.inj j k d1 d2 (at_ j d1 hj e1).2 (at_ k d2 hk e2).2 e1 e2 he
def fDict0 : EF := fun _ M => some (.d (.dict []), M)
theorem se_dict0 {K : PySem.W.Frag} : SE K tDNewK fDict0 := by
  intro γ M x M' hh W H σ Q G R k
  cases hh
  intro p hp
  obtain ⟨e2, G2⟩ := G.lay (o := .dK []) hp
  exact k _ _ _ e2 G2 ⟨p, [], rfl, upd_same, rfl⟩
end L2

end

section
set_option Elab.async false
set_option linter.all false
set_option maxRecDepth 100000
set_option maxHeartbeats 4000000
namespace L2
open PySem PySem.Spec PyProof.Rows
def fPairs : List (EF × EF) → Ga → Sto → Option (List (CD × CD) × Sto)
  | [], _, M => some ([], M)
  | (f, g) :: r, γ, M => (f γ M).bind fun a => (g γ a.2).bind fun b => (fPairs r γ b.2).bind fun q => some ((a.1, b.1) :: q.1, q.2)
def keyOf : CD → Option Key
  | .d (.int i) => some (.inl i)
  | .d (.str x) => some (.inr x)
  | _ => none
def keyed : List (CD × CD) → Option (List (Key × PyData))
  | [] => some []
  | (k, .d x) :: r => (keyOf k).bind fun k' => (keyed r).bind fun q => some ((k', x) :: q)
  | _ => none
def fDict (fs : List (EF × EF)) : EF := fun γ M => (fPairs fs γ (M ++ [.dk []])).bind fun r => match r.2[M.length]? with
  | some (.dk []) => (keyed r.1).bind fun kvs => if kvs.length ≤ 15 ∧ (kvs.map (·.1)).Nodup then some (.d (.dict (kvs.map fun p => (keyD p.1, p.2))), r.2.set M.length .dead) else none
  | _ => none
section
variable {K : PySem.W.Frag}
def SPs (K : PySem.W.Frag) : List (TE × TE) → List (EF × EF) → Prop := Paired fun t f => SE K t.1 f.1 ∧ SE K t.2 f.2
theorem sps_go : ∀ {ts : List (TE × TE)} {fs : List (EF × EF)}, SPs K ts fs → ∀ {γ : Ga} {M : Sto} {xs : List (CD × CD)} {M' : Sto}, fPairs fs γ M = some (xs, M') → ∀ {W : Wd} {H : Hp} {σ : St} {Q : List (V × V) → Hp → Prop}, Good K W M H → RepS K W γ σ →
    (∀ vs W' H', W.Ext W' → Good K W' M' H' → Paired (fun a b => RepV K W' a.1 b.1 ∧ RepV K W' a.2 b.2) xs vs → Q vs H') → tPairs ts σ H Q
  | _, _, .nil, γ, M, xs, M', h, W, H, σ, Q, G, R, k => by
    cases h
    exact k [] W H (.refl _) G .nil
  | _, _, .cons s1 s2, γ, M, xs, M', h, W, H, σ, Q, G, R, k => by
    obtain ⟨⟨a, M1⟩, h1, h⟩ := bindE h
    obtain ⟨⟨b, M2⟩, h2, h⟩ := bindE h
    obtain ⟨⟨q, M3⟩, h3, h⟩ := bindE h
    cases h
    refine s1.1 _ _ _ _ h1 W H σ _ G R fun v W1 H1 e1 G1 r1 => ?_
    refine s1.2 _ _ _ _ h2 W1 H1 σ _ G1 (R.up e1) fun u W2 H2 e2 G2 r2 => ?_
    refine sps_go s2 h3 G2 (R.up (e1.trans e2)) fun vs W3 H3 e3 G3 r3 => ?_
    exact k _ W3 H3 ((e1.trans e2).trans e3) G3 (.cons ⟨r1.up (e2.trans e3), r2.up e3⟩ r3)
theorem keyOf_rep {W : Wd} {x : CD} {k : Key} {v : V} (h : keyOf x = some k) (r : RepV K W x v) : v = kV k := by
  unfold keyOf at h
  split at h
  · cases h; exact r
  · cases h; exact r
  · cases h
theorem keyed_rep {W : Wd} : ∀ {xs : List (CD × CD)} {kvs : List (Key × PyData)} {vs : List (V × V)}, keyed xs = some kvs → Paired (fun a b => RepV K W a.1 b.1 ∧ RepV K W a.2 b.2) xs vs →
    ∃ us : List (Key × V), vs = us.map (fun p => (kV p.1, p.2)) ∧ us.map (·.1) = kvs.map (·.1) ∧ RepKV K W.F (kvs.map fun p => (keyD p.1, p.2)) us
  | [], kvs, vs, h, r => by
    cases h; cases r
    exact ⟨[], rfl, rfl, rfl⟩
  | (k, .c _) :: _, kvs, vs, h, r => by cases h
  | (k, .d x) :: xs, kvs, vs, h, r => by
    obtain ⟨k', h1, h⟩ := bindE (show (keyOf k).bind _ = _ from h)
    obtain ⟨q, h2, h⟩ := bindE h
    cases h
    cases r with
    | @cons _ b _ vs' r1 r2 =>
      obtain ⟨us, e1, e2, e3⟩ := keyed_rep h2 r2
      refine ⟨(k', b.2) :: us, ?_, ?_, k', b.2, us, rfl, rfl, r1.2, e3⟩
      · rw [List.map_cons, ← e1, ← keyOf_rep h1 r1.1]
      · rw [List.map_cons, List.map_cons, e2]
theorem mergeK_nd : ∀ (more acc : List (Key × V)), ((acc ++ more).map (·.1)).Nodup → mergeK acc more = acc ++ more
  | [], acc, _ => by simp [mergeK]
  | p :: more, acc, h => by
    have hn : valV acc p.1 = none := by
      unfold valV
      rw [Option.map_eq_none_iff, List.find?_eq_none]
      intro x hx hd
      have : x.1 = p.1 := of_decide_eq_true hd
      rw [List.map_append, List.nodup_append] at h
      exact h.2.2 x.1 (List.mem_map_of_mem hx) p.1 (by simp) this
    show mergeK (putK acc p.1 p.2) more = _
    rw [putK_new _ hn, mergeK_nd more _ (by rw [List.append_assoc]; exact h), List.append_assoc]
    rfl
theorem se_dict {ts : List (TE × TE)} {fs : List (EF × EF)} (sp : SPs K ts fs) : SE K (tDisp ts) (fDict fs) := by
  intro γ M x M' hh W H σ Q G R k
  obtain ⟨⟨xs, M1⟩, h1, hh⟩ := bindE hh
  intro p hp
  have G1 := G.new hp (c := .dk []) (o := .dK []) (show Paired _ [] [] from .nil)
  have e1 := W.ext_more p
  refine sps_go sp h1 G1 (R.up e1) fun vs W2 H2 e2 G2 r2 => ?_
  dsimp only at hh
  split at hh
  · rename_i hM
    obtain ⟨kvs, h2, hh⟩ := bindE hh
    by_cases hc : kvs.length ≤ 15 ∧ (kvs.map (·.1)).Nodup
    · rw [if_pos hc] at hh
      cases hh
      have al : W2.α M.length = p := by
        rw [e2.al M.length (by show M.length < W.n + 1; rw [G.n]; exact Nat.lt_succ_self _)]
        show (if M.length = W.n then p else _) = p
        rw [if_pos G.n.symm]
      obtain ⟨_, o, g2, g3⟩ := G2.cs _ _ hM (by intro z; cases z)
      rw [al] at g2
      have ho : o = .dK [] := by
        cases o with
        | dK us => cases g3; rfl
        | _ => exact False.elim g3
      subst ho
      obtain ⟨us, z1, z2, z3⟩ := keyed_rep h2 r2
      have nd : (us.map (·.1)).Nodup := by rw [z2]; exact hc.2
      have hl : us.length ≤ 15 := by
        have := congrArg List.length z2
        rw [List.length_map, List.length_map] at this
        omega
      refine ⟨g2, us, z1, hl, ?_⟩
      rw [mergeK_nd us [] (by simpa using nd), List.nil_append]
      obtain ⟨e3, G3⟩ := G2.freeze (o' := .dK us) hM (by intro z; cases z)
      rw [al] at e3 G3
      exact k _ _ _ ((e1.trans e2).trans e3) G3 ⟨p, us, rfl, upd_same, RepKV.same e3.ff _ _ z3⟩
    · rw [if_neg hc] at hh; cases hh
  · cases hh
end
section
variable {ι : Type} {K : PySem.W.Frag} {X : ι → Cx}
structure MD (K : PySem.W.Frag) (X : ι → Cx) (pos : Pos) (ks : List (Option Expr)) (vs : List Expr) (fs : List (EF × EF)) : Prop where
  ex : ∃ ts, (∀ i, PPs (X i) pos ks vs ts) ∧ SPs K ts fs
theorem md_nil {pos : Pos} : MD K X pos [] [] [] := ⟨_, fun _ => pps_nil, .nil⟩
theorem md_cons {pos : Pos} {k v : Expr} {ks : List (Option Expr)} {vs : List Expr} {f g : EF} {fs : List (EF × EF)} (x : ME K X k f) (y : ME K X v g) (z : MD K X pos ks vs fs) : MD K X pos (some k :: ks) (v :: vs) ((f, g) :: fs) := by
  obtain ⟨t, x1, x2⟩ := x.ex; obtain ⟨u, y1, y2⟩ := y.ex; obtain ⟨o, z1, z2⟩ := z.ex
  exact ⟨_, fun i => pps_cons (x1 i) (y1 i) (z1 i), .cons ⟨x2, y2⟩ z2⟩
theorem me_dict {pos : Pos} {ks : List (Option Expr)} {vs : List Expr} {fs : List (EF × EF)} (x : MD K X pos ks vs fs) (hall : ks.all (·.isSome) = true := by rfl) (hl : ks.length = vs.length := by rfl) (h0 : ks ≠ [] := by simp) (h15 : ks.length ≤ 15 := by simp) : ME K X (.Dict ks vs pos) (fDict fs) := by
  obtain ⟨t, x1, x2⟩ := x.ex
  exact ⟨_, fun i => pe_disp (x1 i) hall hl h0 h15, se_dict x2⟩
theorem me_dict0 {pos : Pos} : ME K X (.Dict [] [] pos) fDict0 := ⟨_, fun _ => pe_dnewK, se_dict0⟩
end
end L2

end

section
set_option Elab.async false
set_option linter.all false
set_option maxRecDepth 100000
set_option maxHeartbeats 4000000
namespace L2
open PySem PySem.Spec PyProof.Rows
/-! ### how long a shown piece of data is -/
mutual
def wt : PyData → Nat
  | .none => 4
  | .bool _ => 5
  | .int _ => 2000
  | .str x => (reprText x).length
  | .list xs => wtAll xs + 3
  | .tuple xs => wtAll xs + 3
  | .dict kvs => wtKv kvs + 3
def wtAll : List PyData → Nat
  | [] => 0
  | x :: xs => wt x + 2 + wtAll xs
def wtKv : List (PyData × PyData) → Nat
  | [] => 0
  | (k, v) :: r => wt k + wt v + 4 + wtKv r
end
mutual
def oks : PyData → Bool
  | .none => true
  | .bool _ => true
  | .int i => decide (i.natAbs < 2 ^ 1900)
  | .str _ => true
  | .list xs => oksAll xs
  | .tuple xs => oksAll xs
  | .dict kvs => oksKv kvs
def oksAll : List PyData → Bool
  | [] => true
  | x :: xs => oks x && oksAll xs
def oksKv : List (PyData × PyData) → Bool
  | [] => true
  | (k, v) :: r => oks k && oks v && oksKv r
end
theorem int_log {i : Int} (h : i.natAbs < 2 ^ 1900) : i.natAbs.log2 < 1900 := by
  by_cases h0 : i.natAbs = 0
  · rw [h0]; decide +kernel
  · exact (Nat.log2_lt h0).mpr h
theorem int_len {i : Int} (h : i.natAbs < 2 ^ 1900) : ((toString i : String) : Str).length ≤ 2000 := by
  have h1 := int_text_length_le (k := 1900) (by decide) (int_log h)
  show (Str.ofString (toString i)).length ≤ 2000
  rw [PySem.ofString_length]
  omega
mutual
theorem shown_le : ∀ d : PyData, oks d = true → d.shown.length ≤ wt d
  | .none, _ => by decide
  | .bool b, _ => by cases b <;> decide
  | .int i, h => int_len (of_decide_eq_true h)
  | .str x, _ => Nat.le_refl _
  | .list xs, h => by
    have := shownAll_le xs h
    have h2 := listText_len_le (PyData.shownAll xs)
    show (listText (PyData.shownAll xs)).length ≤ wtAll xs + 3
    omega
  | .tuple xs, h => by
    have := shownAll_le xs h
    have h2 := tupleText_len_le (PyData.shownAll xs)
    show (tupleText (PyData.shownAll xs)).length ≤ wtAll xs + 3
    omega
  | .dict kvs, h => by
    have := shownKv_le kvs h
    have h2 := dictText_len_le (PyData.shownKv kvs)
    show (dictText (PyData.shownKv kvs)).length ≤ wtKv kvs + 3
    omega
theorem shownAll_le : ∀ xs : List PyData, oksAll xs = true → ((PyData.shownAll xs).map (·.length)).sum + 2 * (PyData.shownAll xs).length ≤ wtAll xs
  | [], _ => by simp [PyData.shownAll, wtAll]
  | x :: xs, h => by
    unfold oksAll at h
    rw [Bool.and_eq_true] at h
    have h1 := shown_le x h.1
    have h2 := shownAll_le xs h.2
    simp only [PyData.shownAll, wtAll, List.map_cons, List.sum_cons, List.length_cons]
    omega
theorem shownKv_le : ∀ kvs : List (PyData × PyData), oksKv kvs = true → ((PyData.shownKv kvs).map (·.length)).sum + 2 * (PyData.shownKv kvs).length ≤ wtKv kvs
  | [], _ => by simp [PyData.shownKv, wtKv]
  | (k, v) :: r, h => by
    unfold oksKv at h
    rw [Bool.and_eq_true, Bool.and_eq_true] at h
    have h1 := shown_le k h.1.1
    have h2 := shown_le v h.1.2
    have h3 := shownKv_le r h.2
    have e : (PyData.shown k ++ ": " ++ PyData.shown v).length = (PyData.shown k).length + 2 + (PyData.shown v).length := by
      rw [strLen_append, strLen_append]; rfl
    simp only [PyData.shownKv, wtKv, List.map_cons, List.sum_cons, List.length_cons, e]
    omega
end
mutual
theorem showable_of : ∀ d : PyData, oks d = true → d.showable = true
  | .none, _ => rfl
  | .bool _, _ => rfl
  | .int i, h => by
    have h : i.natAbs < 2 ^ 1900 := of_decide_eq_true h
    refine decide_eq_true ?_
    by_cases h0 : i.natAbs = 0
    · rw [h0]; decide +kernel
    · exact Nat.lt_trans ((Nat.log2_lt h0).mpr h) (by decide)
  | .str _, _ => rfl
  | .list xs, h => showableAll_of xs h
  | .tuple xs, h => showableAll_of xs h
  | .dict kvs, h => showableKv_of kvs h
theorem showableAll_of : ∀ xs : List PyData, oksAll xs = true → PyData.showableAll xs = true
  | [], _ => rfl
  | x :: xs, h => by
    unfold oksAll at h
    rw [Bool.and_eq_true] at h
    show (PyData.showable x && PyData.showableAll xs) = true
    rw [showable_of x h.1, showableAll_of xs h.2]
    rfl
theorem showableKv_of : ∀ kvs : List (PyData × PyData), oksKv kvs = true → PyData.showableKv kvs = true
  | [], _ => rfl
  | (k, v) :: r, h => by
    unfold oksKv at h
    rw [Bool.and_eq_true, Bool.and_eq_true] at h
    show (PyData.showable k && PyData.showable v && PyData.showableKv r) = true
    rw [showable_of k h.1.1, showable_of v h.1.2, showableKv_of r h.2]
    rfl
end
/-- data that may be shown -/
structure Fit (n m : Nat) (d : PyData) : Prop where
  ok : oks d = true
  wt : wt d ≤ n
  dp : d.depth ≤ m
theorem Fit.shown {n m : Nat} {d : PyData} (f : Fit n m d) (hn : n ≤ sizeLine := by decide) (hm : m ≤ 64 := by decide) : shownOk d = true := by
  unfold shownOk
  rw [showable_of d f.ok, decide_eq_true (Nat.le_trans f.dp hm), decide_eq_true (Nat.le_trans (Nat.le_trans (shown_le d f.ok) f.wt) hn)]
  rfl
theorem Fit.mono {n m n' m' : Nat} {d : PyData} (f : Fit n m d) (hn : n ≤ n') (hm : m ≤ m') : Fit n' m' d := ⟨f.ok, Nat.le_trans f.wt hn, Nat.le_trans f.dp hm⟩
theorem reprF_of {n m : Nat} {d : PyData} {M : Sto} (f : Fit n m d) (hn : n ≤ sizeLine := by decide) (hm : m ≤ 64 := by decide) : reprF [.d d] M = some (.d (.str d.shown), M) := by
  unfold reprF
  dsimp only
  rw [if_pos (f.shown hn hm)]
end L2

end

section
set_option Elab.async false
set_option linter.all false
set_option maxRecDepth 100000
set_option maxHeartbeats 4000000
noncomputable section
namespace Q3
open PySem PySem.Spec PyProof.Rows L2
def top (i : Nat) : Stmt := PySem.Challenge.pw_cutstree_k03_whole_any_amount.main.body.getD i (.Pass ⟨0, 0, 0, 0⟩)

abbrev st__law_stream : Stmt := top 13
theorem sc__law_stream : FnScope ["_law_script", "_law_k", "_law_cell", "_law_mixed"] ["_law_script", "_law_k"] (defScope st__law_stream) := ⟨rfl, rfl, rfl, by decide +kernel, rfl, by decide +kernel, by decide +kernel⟩
def m__law_stream : SF := (sSeq (sIf (gB (fOp ltI (fVar 1) (fCall lenF (fCons (fVar 0) fNil)))) 
    (sSeq (sAsg (fOp ixF (fVar 0) (fVar 1)) (hName 2)) 
  (sSeq (sAsg (fOp addX (fOp addX (fOp modI (fVar 2) (fC (.int 2147483629))) (fOp mulI (fVar 1) (fVar 1))) (fC (.int 1))) (hName 3)) 
  (sSeq (sIf (gB (fOp ltI (fVar 2) (fOp powI (fC (.int 10)) (fC (.int 18))))) 
    (sAsg (fC (.int 0)) (hName 2)) 
    sNext) 
  (sRet (fNew (fCons (fVar 2) (fCons (fVar 3) fNil))))))) 
    sNext) 
  (sRet (fNew (fCons (fC (.int 0)) (fCons (fOp addX (fOp mulI (fVar 1) (fVar 1)) (fC (.int 11))) fNil)))))
def F__law_stream : FN := fnF 2 4 m__law_stream
abbrev st__law_take : Stmt := top 14
theorem sc__law_take : FnScope ["_law_stream_here", "_law_most", "_law_digit"] ["_law_stream_here", "_law_most"] (defScope st__law_take) := ⟨rfl, rfl, rfl, by decide +kernel, rfl, by decide +kernel, by decide +kernel⟩
def m__law_take : SF := (sSeq (sIf (gB (fOp (eqX false) (fOp ixF (fVar 0) (fC (.int 0))) (fC (.int 0)))) 
    (sSeq (sAsg (fOp modI (fOp addX (fOp mulI (fOp ixF (fVar 0) (fC (.int 1))) (fC (.int 48271))) (fC (.int 12345))) (fC (.int 2147483647))) (hSub (fVar 0) (fC (.int 1)) setF)) 
  (sRet (fOp modI (fOp modI (fOp mulI (fOp ixF (fVar 0) (fC (.int 1))) (fOp ixF (fVar 0) (fC (.int 1)))) (fC (.int 2147483629))) (fVar 1)))) 
    sNext) 
  (sSeq (sAsg (fOp modI (fOp ixF (fVar 0) (fC (.int 0))) (fVar 1)) (hName 2)) 
  (sSeq (sAsg (fOp fdivI (fOp ixF (fVar 0) (fC (.int 0))) (fVar 1)) (hSub (fVar 0) (fC (.int 0)) setF)) 
  (sRet (fVar 2)))))
def F__law_take : FN := fnF 2 3 m__law_take
abbrev st__law_pick : Stmt := top 15
theorem sc__law_pick : FnScope ["_law_stream_here", "_law_some"] ["_law_stream_here", "_law_some"] (defScope st__law_pick) := ⟨rfl, rfl, rfl, by decide +kernel, rfl, by decide +kernel, by decide +kernel⟩
def m__law_pick : SF := (sRet (fOp ixF (fVar 1) (fCall F__law_take (fCons (fVar 0) (fCons (fCall lenF (fCons (fVar 1) fNil)) fNil)))))
def F__law_pick : FN := fnF 2 2 m__law_pick
abbrev st__law_least : Stmt := top 16
theorem sc__law_least : FnScope ["_law_above", "_law_below", "_law_one", "_law_other"] ["_law_above", "_law_below"] (defScope st__law_least) := ⟨rfl, rfl, rfl, by decide +kernel, rfl, by decide +kernel, by decide +kernel⟩
def W__law_least_0 : SF := (sWhile (gB (fOp gtI (fVar 3) (fC (.int 0)))) (sPar 2 3 (fCons (fVar 3) (fCons (fOp modI (fVar 2) (fVar 3)) fNil))))
def m__law_least : SF := (sSeq (sAsg (fVar 0) (hName 2)) 
  (sSeq (sAsg (fVar 1) (hName 3)) 
  (sSeq W__law_least_0 
  (sRet (fTup (fCons (fOp fdivI (fVar 0) (fVar 2)) (fCons (fOp fdivI (fVar 1) (fVar 2)) fNil)))))))
def F__law_least : FN := fnF 2 4 m__law_least
abbrev st__law_weight : Stmt := top 17
theorem sc__law_weight : FnScope ["_law_stream_here", "_law_kind", "_law_below", "_law_above"] ["_law_stream_here"] (defScope st__law_weight) := ⟨rfl, rfl, rfl, by decide +kernel, rfl, by decide +kernel, by decide +kernel⟩
def K__law_weight_0 : EF := (fLst (fCons (fTup (fCons (fC (.int 1)) (fCons (fC (.int 1)) fNil))) (fCons (fTup (fCons (fC (.int 1)) (fCons (fC (.int 1)) fNil))) (fCons (fTup (fCons (fC (.int 2)) (fCons (fC (.int 1)) fNil))) (fCons (fTup (fCons (fC (.int 1)) (fCons (fC (.int 2)) fNil))) (fCons (fTup (fCons (fC (.int 3)) (fCons (fC (.int 4)) fNil))) (fCons (fTup (fCons (fC (.int 0)) (fCons (fC (.int 1)) fNil))) fNil)))))))
theorem eK__law_weight_0 (γ : Ga) (M : Sto) : K__law_weight_0 γ M = some (.d (.list [(.tuple [(.int 1), (.int 1)]), (.tuple [(.int 1), (.int 1)]), (.tuple [(.int 2), (.int 1)]), (.tuple [(.int 1), (.int 2)]), (.tuple [(.int 3), (.int 4)]), (.tuple [(.int 0), (.int 1)])]), M) := rfl
def K__law_weight_1 : EF := (fLst (fCons (fC (.int 1)) (fCons (fC (.int 2)) (fCons (fC (.int 3)) (fCons (fC (.int 5)) (fCons (fC (.int 7)) (fCons (fC (.int 8)) (fCons (fC (.int 9)) (fCons (fC (.int 11)) (fCons (fC (.int 12)) (fCons (fC (.int 16)) (fCons (fC (.int 35)) (fCons (fC (.int 99)) (fCons (fC (.int 720)) (fCons (fC (.int 5040)) (fCons (fC (.int 27720)) (fCons (fC (.int 55440)) fNil)))))))))))))))))
theorem eK__law_weight_1 (γ : Ga) (M : Sto) : K__law_weight_1 γ M = some (.d (.list [(.int 1), (.int 2), (.int 3), (.int 5), (.int 7), (.int 8), (.int 9), (.int 11), (.int 12), (.int 16), (.int 35), (.int 99), (.int 720), (.int 5040), (.int 27720), (.int 55440)]), M) := rfl
def m__law_weight : SF := (sSeq (sAsg (fCall F__law_take (fCons (fVar 0) (fCons (fC (.int 8)) fNil))) (hName 1)) 
  (sSeq (sIf (gB (fOp ltI (fVar 1) (fC (.int 6)))) 
    (sRet (fOp ixF K__law_weight_0 (fVar 1))) 
    sNext) 
  (sSeq (sAsg (fCall F__law_pick (fCons (fVar 0) (fCons K__law_weight_1 fNil))) (hName 2)) 
  (sSeq (sAsg (fCall F__law_take (fCons (fVar 0) (fCons (fC (.int 1000)) fNil))) (hName 3)) 
  (sSeq (sIf (gB (fOp (eqX false) (fVar 1) (fC (.int 7)))) 
    (sAsg (fOp ixF (fLst (fCons (fOp powI (fC (.int 10)) (fC (.int 12))) (fCons (fOp subI (fOp powI (fC (.int 10)) (fC (.int 12))) (fC (.int 1))) (fCons (fC (.int 1)) (fCons (fOp addX (fOp powI (fC (.int 10)) (fC (.int 9))) (fCall F__law_take (fCons (fVar 0) (fCons (fC (.int 1000)) fNil)))) fNil))))) (fCall F__law_take (fCons (fVar 0) (fCons (fC (.int 4)) fNil)))) (hName 3)) 
    sNext) 
  (sRet (fCall F__law_least (fCons (fVar 3) (fCons (fVar 2) fNil)))))))))
def F__law_weight : FN := fnF 1 4 m__law_weight
abbrev st__law_bent : Stmt := top 24
theorem sc__law_bent : FnScope ["_law_stream_here", "_law_row", "_law_place", "_law_kind", "_law_some"] ["_law_stream_here", "_law_row"] (defScope st__law_bent) := ⟨rfl, rfl, rfl, by decide +kernel, rfl, by decide +kernel, by decide +kernel⟩
def K__law_bent_0 : EF := (fLst (fCons (fC .none) (fCons (fC (.bool true)) (fCons (fC (.bool false)) (fCons (fUn negI (fC (.int 1))) (fCons (fC (.int 0)) (fCons (fC (.int 1)) (fCons (fC (.int 40)) (fCons (fOp addX (fOp powI (fC (.int 10)) (fC (.int 12))) (fC (.int 1))) (fCons (fC (.str "")) (fCons (fC (.str "1")) (fCons (fTup fNil) (fCons (fTup (fCons (fC (.int 1)) (fCons (fC (.int 2)) fNil))) (fCons (fTup (fCons (fC (.int 2)) (fCons (fC (.int 2)) fNil))) (fCons (fTup (fCons (fC (.int 0)) (fCons (fC (.int 2)) fNil))) (fCons (fTup (fCons (fC (.int 1)) (fCons (fC (.int 13)) fNil))) (fCons fDict0 fNil)))))))))))))))))
theorem eK__law_bent_0 (γ : Ga) (M : Sto) : K__law_bent_0 γ M = some (.d (.list [.none, (.bool true), (.bool false), (.int (-1)), (.int 0), (.int 1), (.int 40), (.int 1000000000001), (.str ""), (.str "1"), (.tuple []), (.tuple [(.int 1), (.int 2)]), (.tuple [(.int 2), (.int 2)]), (.tuple [(.int 0), (.int 2)]), (.tuple [(.int 1), (.int 13)]), (.dict [])]), M) := rfl
def m__law_bent : SF := (sSeq (sAsg (fCall F__law_take (fCons (fVar 0) (fCons (fCall lenF (fCons (fVar 1) fNil)) fNil))) (hName 2)) 
  (sSeq (sAsg (fCall F__law_take (fCons (fVar 0) (fCons (fC (.int 4)) fNil))) (hName 3)) 
  (sSeq (sIf (gB (fOp (eqX false) (fVar 3) (fC (.int 0)))) 
    (sRet (fOp addX (fSl (fVar 1) fNoPart (fPart (fVar 2))) (fSl (fVar 1) (fPart (fOp addX (fVar 2) (fC (.int 1)))) fNoPart))) 
    sNext) 
  (sSeq (sIf (gB (fOp (eqX false) (fVar 3) (fC (.int 1)))) 
    (sRet (fOp addX (fOp addX (fSl (fVar 1) fNoPart (fPart (fVar 2))) (fTup (fCons (fOp ixF (fVar 1) (fVar 2)) fNil))) (fSl (fVar 1) (fPart (fVar 2)) fNoPart))) 
    sNext) 
  (sSeq (sAsg K__law_bent_0 (hName 4)) 
  (sRet (fOp addX (fOp addX (fSl (fVar 1) fNoPart (fPart (fVar 2))) (fTup (fCons (fOp ixF (fVar 4) (fCall F__law_take (fCons (fVar 0) (fCons (fC (.int 16)) fNil)))) fNil))) (fSl (fVar 1) (fPart (fOp addX (fVar 2) (fC (.int 1)))) fNoPart))))))))
def F__law_bent : FN := fnF 2 5 m__law_bent
abbrev st__law_any : Stmt := top 18
theorem sc__law_any : FnScope ["_law_stream_here", "_law_script", "_law_depth", "_law_kind", "_law_some"] ["_law_stream_here", "_law_script", "_law_depth"] (defScope st__law_any) := ⟨rfl, rfl, rfl, by decide +kernel, rfl, by decide +kernel, by decide +kernel⟩
def K__law_any_0 : EF := (fLst (fCons (fC (.int 0)) (fCons (fC (.int 1)) (fCons (fC (.int 2)) (fCons (fC (.int 3)) (fCons (fUn negI (fC (.int 1))) (fCons (fC (.int 40)) (fCons (fC (.int 55440)) fNil))))))))
theorem eK__law_any_0 (γ : Ga) (M : Sto) : K__law_any_0 γ M = some (.d (.list [(.int 0), (.int 1), (.int 2), (.int 3), (.int (-1)), (.int 40), (.int 55440)]), M) := rfl
def K__law_any_1 : EF := (fLst (fCons (fC (.bool true)) (fCons (fC (.bool false)) (fCons (fC .none) fNil))))
theorem eK__law_any_1 (γ : Ga) (M : Sto) : K__law_any_1 γ M = some (.d (.list [(.bool true), (.bool false), .none]), M) := rfl
def K__law_any_2 : EF := (fLst (fCons (fC (.str "")) (fCons (fC (.str "1")) (fCons (fC (.str "1/2")) (fCons (fC (.str "place")) (fCons (fC (.str "tie")) (fCons (fC (.str "ab")) fNil)))))))
theorem eK__law_any_2 (γ : Ga) (M : Sto) : K__law_any_2 γ M = some (.d (.list [(.str ""), (.str "1"), (.str "1/2"), (.str "place"), (.str "tie"), (.str "ab")]), M) := rfl
def C__law_any_0 (self : FN) : EF := (fLc [some 0, some 1, some 2, none] (fRng1 (fCons (fCall F__law_take (fCons (fVar 0) (fCons (fC (.int 4)) fNil))) fNil)) (hName 3) gYes (fCall self (fCons (fVar 0) (fCons (fVar 1) (fCons (fOp subI (fVar 2) (fC (.int 1))) fNil)))))
def m__law_any (self : FN) : SF := (sSeq (sAsg (fCall F__law_take (fCons (fVar 0) (fCons (fOp subI (fC (.int 9)) (fOp mulI (fC (.int 3)) (fCall intF (fCons (fOp (eqX false) (fVar 2) (fC (.int 0))) fNil)))) fNil))) (hName 3)) 
  (sSeq (sIf (gB (fOp (eqX false) (fVar 3) (fC (.int 0)))) 
    (sRet (fIf (gB (fOp (eqX true) (fVar 1) (fLst fNil))) (fOp subI (fOp modI (fOp ixF (fVar 1) (fC (.int 0))) (fOp powI (fC (.int 10)) (fC (.int 40)))) (fOp powI (fC (.int 10)) (fC (.int 39)))) (fUn negI (fC (.int 1))))) 
    sNext) 
  (sSeq (sIf (gB (fOp (eqX false) (fVar 3) (fC (.int 1)))) 
    (sRet (fOp ixF K__law_any_0 (fCall F__law_take (fCons (fVar 0) (fCons (fC (.int 7)) fNil))))) 
    sNext) 
  (sSeq (sIf (gB (fOp (eqX false) (fVar 3) (fC (.int 2)))) 
    (sRet (fOp ixF K__law_any_1 (fCall F__law_take (fCons (fVar 0) (fCons (fC (.int 3)) fNil))))) 
    sNext) 
  (sSeq (sIf (gB (fOp ltI (fVar 3) (fC (.int 6)))) 
    (sRet (fOp ixF K__law_any_2 (fCall F__law_take (fCons (fVar 0) (fCons (fC (.int 6)) fNil))))) 
    sNext) 
  (sSeq (sAsg (C__law_any_0 self) (hName 4)) 
  (sSeq (sIf (gB (fOp (eqX false) (fVar 3) (fC (.int 6)))) 
    (sRet (fCall tupleF (fCons (fVar 4) fNil))) 
    sNext) 
  (sSeq (sIf (gB (fOp (eqX false) (fVar 3) (fC (.int 7)))) 
    (sRet (fVar 4)) 
    sNext) 
  (sRet (fDict [((fC (.int 0)), (fVar 4)), ((fC (.str "a")), (fC .none))]))))))))))
def F__law_any : Nat → FN
  | 0 => fun _ _ => none
  | n + 1 => fnF 3 5 (m__law_any (F__law_any n))
abbrev st__law_great : Stmt := top 25
theorem sc__law_great : FnScope ["_law_stream_here", "_law_one", "_law_other"] ["_law_stream_here"] (defScope st__law_great) := ⟨rfl, rfl, rfl, by decide +kernel, rfl, by decide +kernel, by decide +kernel⟩
def m__law_great : SF := (sSeq (sAsg (fOp powI (fOp addX (fC (.int 3)) (fCall F__law_take (fCons (fVar 0) (fCons (fC (.int 5)) fNil)))) (fC (.int 60))) (hName 1)) 
  (sSeq (sAsg (fOp mulI (fOp mulI (fOp mulI (fVar 1) (fVar 1)) (fVar 1)) (fOp addX (fC (.int 7)) (fCall F__law_take (fCons (fVar 0) (fCons (fC (.int 4)) fNil))))) (hName 2)) 
  (sRet (fLst (fCons (fTup (fCons (fVar 2) (fCons (fVar 1) fNil))) (fCons (fTup (fCons (fVar 1) (fCons (fOp addX (fVar 2) (fC (.int 1))) fNil))) (fCons (fTup (fCons (fOp addX (fVar 2) (fC (.int 1))) (fCons (fVar 1) fNil))) (fCons (fTup (fCons (fVar 1) (fCons (fC (.int 1)) fNil))) (fCons (fTup (fCons (fUn negI (fVar 2)) (fCons (fC (.int 1)) fNil))) (fCons (fTup (fCons (fVar 2) (fCons (fUn negI (fVar 1)) fNil))) fNil))))))))))
def F__law_great : FN := fnF 1 3 m__law_great
abbrev st_common : Stmt := top 11
theorem sc_common : FnScope ["one", "other"] ["one", "other"] (defScope st_common) := ⟨rfl, rfl, rfl, by decide +kernel, rfl, by decide +kernel, by decide +kernel⟩
def W_common_0 : SF := (sWhile (gTru (fVar 1)) (sPar 0 1 (fCons (fVar 1) (fCons (fOp modI (fVar 0) (fVar 1)) fNil))))
def m_common : SF := (sSeq W_common_0 
  (sRet (fVar 0)))
def F_common : FN := fnF 2 2 m_common
abbrev st_is_whole : Stmt := top 1
theorem sc_is_whole : FnScope ["thing"] ["thing"] (defScope st_is_whole) := ⟨rfl, rfl, rfl, by decide +kernel, rfl, by decide +kernel, by decide +kernel⟩
def m_is_whole : SF := (sRet (fAnd (fIsi "int" (fVar 0)) (fNot (fIsi "bool" (fVar 0)))))
def F_is_whole : FN := fnF 1 1 m_is_whole
abbrev st_is_row : Stmt := top 2
theorem sc_is_row : FnScope ["thing"] ["thing"] (defScope st_is_row) := ⟨rfl, rfl, rfl, by decide +kernel, rfl, by decide +kernel, by decide +kernel⟩
def m_is_row : SF := (sRet (fIsi2 "list" "tuple" (fVar 0)))
def F_is_row : FN := fnF 1 1 m_is_row
abbrev st_is_row_of : Stmt := top 3
theorem sc_is_row_of : FnScope ["thing", "length"] ["thing", "length"] (defScope st_is_row_of) := ⟨rfl, rfl, rfl, by decide +kernel, rfl, by decide +kernel, by decide +kernel⟩
def m_is_row_of : SF := (sRet (fAnd (fCall F_is_row (fCons (fVar 0) fNil)) (fOp (eqX false) (fCall lenF (fCons (fVar 0) fNil)) (fVar 1))))
def F_is_row_of : FN := fnF 2 2 m_is_row_of
abbrev st_has_amount_numbers : Stmt := top 10
theorem sc_has_amount_numbers : FnScope ["thing"] ["thing"] (defScope st_has_amount_numbers) := ⟨rfl, rfl, rfl, by decide +kernel, rfl, by decide +kernel, by decide +kernel⟩
def m_has_amount_numbers : SF := (sSeq (sIf (gOr (gNot (gB (fCall F_is_row_of (fCons (fVar 0) (fCons (fC (.int 2)) fNil))))) (gOr (gNot (gB (fCall F_is_whole (fCons (fOp ixF (fVar 0) (fC (.int 0))) fNil)))) (gNot (gB (fCall F_is_whole (fCons (fOp ixF (fVar 0) (fC (.int 1))) fNil)))))) 
    (sRet (fC (.bool false))) 
    sNext) 
  (sRet (fAnd (fOp geI (fOp ixF (fVar 0) (fC (.int 0))) (fC (.int 0))) (fOp geI (fOp ixF (fVar 0) (fC (.int 1))) (fC (.int 1))))))
def F_has_amount_numbers : FN := fnF 1 1 m_has_amount_numbers
abbrev st_is_amount : Stmt := top 7
theorem sc_is_amount : FnScope ["thing"] ["thing"] (defScope st_is_amount) := ⟨rfl, rfl, rfl, by decide +kernel, rfl, by decide +kernel, by decide +kernel⟩
def m_is_amount : SF := (sRet (fAnd (fCall F_has_amount_numbers (fCons (fVar 0) fNil)) (fOp (eqX false) (fCall F_common (fCons (fOp ixF (fVar 0) (fC (.int 0))) (fCons (fOp ixF (fVar 0) (fC (.int 1))) fNil))) (fC (.int 1)))))
def F_is_amount : FN := fnF 1 1 m_is_amount
abbrev st_is_in_parts : Stmt := top 9
theorem sc_is_in_parts : FnScope ["thing"] ["thing"] (defScope st_is_in_parts) := ⟨rfl, rfl, rfl, by decide +kernel, rfl, by decide +kernel, by decide +kernel⟩
def m_is_in_parts : SF := (sRet (fAnd (fCall F_has_amount_numbers (fCons (fVar 0) fNil)) (fAnd (fOp (eqX false) (fOp modI (fC (.int 55440)) (fOp ixF (fVar 0) (fC (.int 1)))) (fC (.int 0))) (fOp (eqX false) (fCall F_common (fCons (fOp ixF (fVar 0) (fC (.int 0))) (fCons (fOp ixF (fVar 0) (fC (.int 1))) fNil))) (fC (.int 1))))))
def F_is_in_parts : FN := fnF 1 1 m_is_in_parts
abbrev st_is_weight : Stmt := top 8
theorem sc_is_weight : FnScope ["thing"] ["thing"] (defScope st_is_weight) := ⟨rfl, rfl, rfl, by decide +kernel, rfl, by decide +kernel, by decide +kernel⟩
def m_is_weight : SF := (sRet (fAnd (fCall F_is_in_parts (fCons (fVar 0) fNil)) (fOp leI (fOp ixF (fVar 0) (fC (.int 0))) (fC (.int 1000000000000)))))
def F_is_weight : FN := fnF 1 1 m_is_weight
abbrev st__law_is_row : Stmt := top 19
theorem sc__law_is_row : FnScope ["_law_thing"] ["_law_thing"] (defScope st__law_is_row) := ⟨rfl, rfl, rfl, by decide +kernel, rfl, by decide +kernel, by decide +kernel⟩
def m__law_is_row : SF := (sRet (fOr (fIsi "list" (fVar 0)) (fIsi "tuple" (fVar 0))))
def F__law_is_row : FN := fnF 1 1 m__law_is_row
abbrev st__law_is_amount : Stmt := top 21
theorem sc__law_is_amount : FnScope ["_law_thing"] ["_law_thing"] (defScope st__law_is_amount) := ⟨rfl, rfl, rfl, by decide +kernel, rfl, by decide +kernel, by decide +kernel⟩
def C__law_is_amount_0 : EF := (fLc [none] (fItems (fVar 0)) (hName 0) gYes (fAnd (fIsi "int" (fVar 0)) (fNot (fIsi "bool" (fVar 0)))))
def m__law_is_amount : SF := (sSeq (sIf (gOr (gNot (gB (fCall F__law_is_row (fCons (fVar 0) fNil)))) (gB (fOp (eqX true) (fCall lenF (fCons (fVar 0) fNil)) (fC (.int 2))))) 
    (sRet (fC (.bool false))) 
    sNext) 
  (sSeq (sIf (gOr (gNot (gB (fCall allF (fCons C__law_is_amount_0 fNil)))) (gOr (gB (fOp ltI (fOp ixF (fVar 0) (fC (.int 0))) (fC (.int 0)))) (gB (fOp ltI (fOp ixF (fVar 0) (fC (.int 1))) (fC (.int 1)))))) 
    (sRet (fC (.bool false))) 
    sNext) 
  (sRet (fOp (eqX false) (fCall F__law_least (fCons (fOp ixF (fVar 0) (fC (.int 0))) (fCons (fOp ixF (fVar 0) (fC (.int 1))) fNil))) (fTup (fCons (fOp ixF (fVar 0) (fC (.int 0))) (fCons (fOp ixF (fVar 0) (fC (.int 1))) fNil)))))))
def F__law_is_amount : FN := fnF 1 1 m__law_is_amount
abbrev st__law_is_weight : Stmt := top 22
theorem sc__law_is_weight : FnScope ["_law_thing"] ["_law_thing"] (defScope st__law_is_weight) := ⟨rfl, rfl, rfl, by decide +kernel, rfl, by decide +kernel, by decide +kernel⟩
def m__law_is_weight : SF := (sRet (fAnd (fCall F__law_is_amount (fCons (fVar 0) fNil)) (fAnd (fOp leI (fOp ixF (fVar 0) (fC (.int 0))) (fOp powI (fC (.int 10)) (fC (.int 12)))) (fOp (eqX false) (fOp modI (fC (.int 55440)) (fOp ixF (fVar 0) (fC (.int 1)))) (fC (.int 0))))))
def F__law_is_weight : FN := fnF 1 1 m__law_is_weight
abbrev st__law_right : Stmt := top 26
theorem sc__law_right : FnScope ["_law_thing", "_law_kept", "_law_amount", "_law_weight_here"] ["_law_thing"] (defScope st__law_right) := ⟨rfl, rfl, rfl, by decide +kernel, rfl, by decide +kernel, by decide +kernel⟩
def m__law_right : SF := (sSeq (sAsg (fCall reprF (fCons (fVar 0) fNil)) (hName 1)) 
  (sSeq (sAsg (fCall F_is_amount (fCons (fVar 0) fNil)) (hName 2)) 
  (sSeq (sAsg (fCall F_is_weight (fCons (fVar 0) fNil)) (hName 3)) 
  (sSeq (sIf (gOr (gNot (gB (fIsi "bool" (fVar 2)))) (gOr (gNot (gB (fIsi "bool" (fVar 3)))) (gB (fOp (eqX true) (fCall reprF (fCons (fVar 0) fNil)) (fVar 1))))) 
    (sRet (fC (.bool false))) 
    sNext) 
  (sRet (fAnd (fOp (eqX false) (fVar 2) (fCall F__law_is_amount (fCons (fVar 0) fNil))) (fOp (eqX false) (fVar 3) (fCall F__law_is_weight (fCons (fVar 0) fNil)))))))))
def F__law_right : FN := fnF 1 4 m__law_right
abbrev st__law_lists : Stmt := top 23
theorem sc__law_lists : FnScope ["_law_thing"] ["_law_thing"] (defScope st__law_lists) := ⟨rfl, rfl, rfl, by decide +kernel, rfl, by decide +kernel, by decide +kernel⟩
def C__law_lists_0 (self : FN) : EF := (fLc [none] (fItems (fVar 0)) (hName 0) gYes (fCall self (fCons (fVar 0) fNil)))
def m__law_lists (self : FN) : SF := (sSeq (sIf (gB (fIsi "tuple" (fVar 0))) 
    (sRet (C__law_lists_0 self)) 
    sNext) 
  (sRet (fVar 0)))
def F__law_lists : Nat → FN
  | 0 => fun _ _ => none
  | n + 1 => fnF 1 1 (m__law_lists (F__law_lists n))
abbrev st_law : Stmt := top 27
theorem sc_law : FnScope ["_law_script", "_law_k", "_law_stream_here", "_law_weight_here", "_law_some", "_law_thing"] ["_law_script"] (defScope st_law) := ⟨rfl, rfl, rfl, by decide +kernel, rfl, by decide +kernel, by decide +kernel⟩
def K_law_0 : EF := (fTup (fCons (fC (.int 1)) fNil))
theorem eK_law_0 (γ : Ga) (M : Sto) : K_law_0 γ M = some (.d (.tuple [(.int 1)]), M) := rfl
def L_law_0 : SF := (sIf (gOr (gNot (gB (fCall F__law_right (fCons (fVar 5) fNil)))) (gOr (gNot (gB (fCall F__law_right (fCons (fCall (F__law_lists 12) (fCons (fVar 5) fNil)) fNil)))) (gNot (gB (fCall F__law_right (fCons (fTup (fCons (fVar 5) fNil)) fNil)))))) 
    (sRet (fC (.bool false))) 
    sNext)
def L_law_1 : SF := (sSeq (sAsg (fCall F__law_stream (fCons (fVar 0) (fCons (fVar 1) fNil))) (hName 2)) 
  (sSeq (sAsg (fCall F__law_weight (fCons (fVar 2) fNil)) (hName 3)) 
  (sSeq (sAsg (fNew (fCons (fCall (F__law_any 5) (fCons (fVar 2) (fCons (fVar 0) (fCons (fC (.int 3)) fNil)))) (fCons (fCall (F__law_any 5) (fCons (fVar 2) (fCons (fVar 0) (fCons (fC (.int 3)) fNil)))) (fCons (fVar 3) (fCons (fCall F__law_bent (fCons (fVar 2) (fCons (fVar 3) fNil))) fNil))))) (hName 4)) 
  (sSeq (sDrop (fMeth "list" appendF (fVar 4) (fCons (fCall F__law_bent (fCons (fVar 2) (fCons (fOp addX (fCall F__law_bent (fCons (fVar 2) (fCons (fVar 3) fNil))) K_law_0) fNil))) fNil))) 
  (sFor (fItems (fOp addX (fVar 4) (fCall F__law_great (fCons (fVar 2) fNil)))) (hName 5) L_law_0)))))
def m_law : SF := (sSeq (sFor (fRng1 (fCons (fC (.int 5)) fNil)) (hName 1) L_law_1) 
  (sRet (fC (.bool true))))
def F_law : FN := fnF 1 6 m_law
structure Txt (K : PySem.W.Frag) (mg : Str → Option Value) : Prop where
  hB : Free mg ["all", "bool", "int", "isinstance", "len", "list", "range", "repr", "tuple"]
  c_MOST_ABOVE : ∃ t : Tok, mg "MOST_ABOVE" = some (.int 1000000000000 t)
  c_BELOW : ∃ t : Tok, mg "BELOW" = some (.int 55440 t)
  d__law_stream : Def K mg "_law_stream" st__law_stream
  d__law_take : Def K mg "_law_take" st__law_take
  d__law_pick : Def K mg "_law_pick" st__law_pick
  d__law_least : Def K mg "_law_least" st__law_least
  d__law_weight : Def K mg "_law_weight" st__law_weight
  d__law_bent : Def K mg "_law_bent" st__law_bent
  d__law_any : Def K mg "_law_any" st__law_any
  d__law_great : Def K mg "_law_great" st__law_great
  d_common : Def K mg "common" st_common
  d_is_whole : Def K mg "is_whole" st_is_whole
  d_is_row : Def K mg "is_row" st_is_row
  d_is_row_of : Def K mg "is_row_of" st_is_row_of
  d_has_amount_numbers : Def K mg "has_amount_numbers" st_has_amount_numbers
  d_is_amount : Def K mg "is_amount" st_is_amount
  d_is_in_parts : Def K mg "is_in_parts" st_is_in_parts
  d_is_weight : Def K mg "is_weight" st_is_weight
  d__law_is_row : Def K mg "_law_is_row" st__law_is_row
  d__law_is_amount : Def K mg "_law_is_amount" st__law_is_amount
  d__law_is_weight : Def K mg "_law_is_weight" st__law_is_weight
  d__law_right : Def K mg "_law_right" st__law_right
  d__law_lists : Def K mg "_law_lists" st__law_lists
  d_law : Def K mg "law" st_law
section
variable {P : Program} {w : World} {K : PySem.W.Frag} {mg : Str → Option Value} {base : Heap}
theorem ok__law_stream (T : Txt K mg) : Callee P w K mg base 1 "_law_stream" ["_law_script", "_law_k"] (spM K F__law_stream) :=
  T.d__law_stream.okG (N := ["_law_script", "_law_k", "_law_cell", "_law_mixed"]) (ps := ["_law_script", "_law_k"]) (k := 0) (b := m__law_stream) sc__law_stream (fun _ _ _ _ _ _ us hl => match us, hl with | [_, _], _ => rfl) fun f cdv A outer s H E hr => 
    (ml_cons (ms_if (mt_cmp q_lt (me_var 1) (me_callB (q_len (fun _ => rfl)) (fun _ => T.hB.of "len") boot_len (ma_cons (me_var 0) ma_nil (fun _ => star_Name)))) 
        (ml_cons (ms_set 2 (fun _ => sc__law_stream.nd) (me_ix (q_ix (fun _ => rfl)) (me_var 0) (me_var 1) (fun _ _ => rfl))) 
      (ml_cons (ms_set 3 (fun _ => sc__law_stream.nd) (me_op (q_add (fun _ => rfl)) (me_op (q_add (fun _ => rfl)) (me_op q_mod (me_var 2) me_int) (me_op q_mul (me_var 1) (me_var 1))) me_int)) 
      (ml_cons (ms_if (mt_cmp q_lt (me_var 2) (me_op q_pow me_int me_int)) 
        (ml_one (ms_set 2 (fun _ => sc__law_stream.nd) me_int)) 
        ml_nil) 
      (ml_one (ms_ret (me_new (ma_cons (me_var 2) (ma_cons (me_var 3) ma_nil (fun _ => star_Name)) (fun _ => star_Name)))))))) 
        ml_nil) 
      (ml_one (ms_ret (me_new (ma_cons me_int (ma_cons (me_op (q_add (fun _ => rfl)) (me_op q_mul (me_var 1) (me_var 1)) me_int) ma_nil (fun _ => star_BinOp)) (fun _ => star_Constant))))))
theorem ok__law_take (T : Txt K mg) : Callee P w K mg base 1 "_law_take" ["_law_stream_here", "_law_most"] (spM K F__law_take) :=
  T.d__law_take.okG (N := ["_law_stream_here", "_law_most", "_law_digit"]) (ps := ["_law_stream_here", "_law_most"]) (k := 0) (b := m__law_take) sc__law_take (fun _ _ _ _ _ _ us hl => match us, hl with | [_, _], _ => rfl) fun f cdv A outer s H E hr => 
    (ml_cons (ms_if (mt_cmp (q_eq (fun _ => rfl) (fun _ => hr.units)) (me_ix (q_ix (fun _ => rfl)) (me_var 0) me_int (fun _ _ => rfl)) me_int) 
        (ml_cons (ms_asg (me_op q_mod (me_op (q_add (fun _ => rfl)) (me_op q_mul (me_ix (q_ix (fun _ => rfl)) (me_var 0) me_int (fun _ _ => rfl)) me_int) me_int) me_int) (mg_sub q_set (me_var 0) me_int)) 
      (ml_one (ms_ret (me_op q_mod (me_op q_mod (me_op q_mul (me_ix (q_ix (fun _ => rfl)) (me_var 0) me_int (fun _ _ => rfl)) (me_ix (q_ix (fun _ => rfl)) (me_var 0) me_int (fun _ _ => rfl))) me_int) (me_var 1))))) 
        ml_nil) 
      (ml_cons (ms_set 2 (fun _ => sc__law_take.nd) (me_op q_mod (me_ix (q_ix (fun _ => rfl)) (me_var 0) me_int (fun _ _ => rfl)) (me_var 1))) 
      (ml_cons (ms_asg (me_op q_fdiv (me_ix (q_ix (fun _ => rfl)) (me_var 0) me_int (fun _ _ => rfl)) (me_var 1)) (mg_sub q_set (me_var 0) me_int)) 
      (ml_one (ms_ret (me_var 2))))))
theorem ok__law_pick (T : Txt K mg) : Callee P w K mg base 2 "_law_pick" ["_law_stream_here", "_law_some"] (spM K F__law_pick) :=
  T.d__law_pick.okG (N := ["_law_stream_here", "_law_some"]) (ps := ["_law_stream_here", "_law_some"]) (k := 1) (b := m__law_pick) sc__law_pick (fun _ _ _ _ _ _ us hl => match us, hl with | [_, _], _ => rfl) fun f cdv A outer s H E hr => 
    (ml_one (ms_ret (me_ix (q_ix (fun _ => rfl)) (me_var 1) (me_call (fun _ => ok__law_take T) (fun _ => hr.mono (by decide)) (ma_cons (me_var 0) (ma_cons (me_callB (q_len (fun _ => rfl)) (fun _ => T.hB.of "len") boot_len (ma_cons (me_var 1) ma_nil (fun _ => star_Name))) ma_nil (fun _ => star_Call)) (fun _ => star_Name))) (fun _ _ => rfl))))
theorem ok__law_least (T : Txt K mg) : Callee P w K mg base 1 "_law_least" ["_law_above", "_law_below"] (spM K F__law_least) :=
  T.d__law_least.okG (N := ["_law_above", "_law_below", "_law_one", "_law_other"]) (ps := ["_law_above", "_law_below"]) (k := 0) (b := m__law_least) sc__law_least (fun _ _ _ _ _ _ us hl => match us, hl with | [_, _], _ => rfl) fun f cdv A outer s H E hr => 
    (ml_cons (ms_set 2 (fun _ => sc__law_least.nd) (me_var 0)) 
      (ml_cons (ms_set 3 (fun _ => sc__law_least.nd) (me_var 1)) 
      (ml_cons (ms_while (fun _ => PassesOwn.never) (mt_cmp q_gt (me_var 3) me_int) (ml_one (ms_par 2 3 (fun _ => rfl) (fun _ => sc__law_least.nd) (ma_cons (me_var 3) (ma_cons (me_op q_mod (me_var 2) (me_var 3)) ma_nil (fun _ => star_BinOp)) (fun _ => star_Name))))) 
      (ml_one (ms_ret (me_tup (ma_cons (me_op q_fdiv (me_var 0) (me_var 2)) (ma_cons (me_op q_fdiv (me_var 1) (me_var 2)) ma_nil (fun _ => star_BinOp)) (fun _ => star_BinOp))))))))
theorem ok__law_weight (T : Txt K mg) : Callee P w K mg base 3 "_law_weight" ["_law_stream_here"] (spM K F__law_weight) :=
  T.d__law_weight.okG (N := ["_law_stream_here", "_law_kind", "_law_below", "_law_above"]) (ps := ["_law_stream_here"]) (k := 2) (b := m__law_weight) sc__law_weight (fun _ _ _ _ _ _ us hl => match us, hl with | [_], _ => rfl) fun f cdv A outer s H E hr => 
    (ml_cons (ms_set 1 (fun _ => sc__law_weight.nd) (me_call (fun _ => ok__law_take T) (fun _ => hr.mono (by decide)) (ma_cons (me_var 0) (ma_cons me_int ma_nil (fun _ => star_Constant)) (fun _ => star_Name)))) 
      (ml_cons (ms_if (mt_cmp q_lt (me_var 1) me_int) 
        (ml_one (ms_ret (me_ix (q_ix (fun _ => rfl)) (me_lst (ma_cons (me_tup (ma_cons me_int (ma_cons me_int ma_nil (fun _ => star_Constant)) (fun _ => star_Constant))) (ma_cons (me_tup (ma_cons me_int (ma_cons me_int ma_nil (fun _ => star_Constant)) (fun _ => star_Constant))) (ma_cons (me_tup (ma_cons me_int (ma_cons me_int ma_nil (fun _ => star_Constant)) (fun _ => star_Constant))) (ma_cons (me_tup (ma_cons me_int (ma_cons me_int ma_nil (fun _ => star_Constant)) (fun _ => star_Constant))) (ma_cons (me_tup (ma_cons me_int (ma_cons me_int ma_nil (fun _ => star_Constant)) (fun _ => star_Constant))) (ma_cons (me_tup (ma_cons me_int (ma_cons me_int ma_nil (fun _ => star_Constant)) (fun _ => star_Constant))) ma_nil (fun _ => star_Tuple)) (fun _ => star_Tuple)) (fun _ => star_Tuple)) (fun _ => star_Tuple)) (fun _ => star_Tuple)) (fun _ => star_Tuple))) (me_var 1) (fun _ _ => rfl)))) 
        ml_nil) 
      (ml_cons (ms_set 2 (fun _ => sc__law_weight.nd) (me_call (fun _ => ok__law_pick T) (fun _ => hr.mono (by decide)) (ma_cons (me_var 0) (ma_cons (me_lst (ma_cons me_int (ma_cons me_int (ma_cons me_int (ma_cons me_int (ma_cons me_int (ma_cons me_int (ma_cons me_int (ma_cons me_int (ma_cons me_int (ma_cons me_int (ma_cons me_int (ma_cons me_int (ma_cons me_int (ma_cons me_int (ma_cons me_int (ma_cons me_int ma_nil (fun _ => star_Constant)) (fun _ => star_Constant)) (fun _ => star_Constant)) (fun _ => star_Constant)) (fun _ => star_Constant)) (fun _ => star_Constant)) (fun _ => star_Constant)) (fun _ => star_Constant)) (fun _ => star_Constant)) (fun _ => star_Constant)) (fun _ => star_Constant)) (fun _ => star_Constant)) (fun _ => star_Constant)) (fun _ => star_Constant)) (fun _ => star_Constant)) (fun _ => star_Constant))) ma_nil (fun _ => star_List)) (fun _ => star_Name)))) 
      (ml_cons (ms_set 3 (fun _ => sc__law_weight.nd) (me_call (fun _ => ok__law_take T) (fun _ => hr.mono (by decide)) (ma_cons (me_var 0) (ma_cons me_int ma_nil (fun _ => star_Constant)) (fun _ => star_Name)))) 
      (ml_cons (ms_if (mt_cmp (q_eq (fun _ => rfl) (fun _ => hr.units)) (me_var 1) me_int) 
        (ml_one (ms_set 3 (fun _ => sc__law_weight.nd) (me_ix (q_ix (fun _ => rfl)) (me_lst (ma_cons (me_op q_pow me_int me_int) (ma_cons (me_op q_sub (me_op q_pow me_int me_int) me_int) (ma_cons me_int (ma_cons (me_op (q_add (fun _ => rfl)) (me_op q_pow me_int me_int) (me_call (fun _ => ok__law_take T) (fun _ => hr.mono (by decide)) (ma_cons (me_var 0) (ma_cons me_int ma_nil (fun _ => star_Constant)) (fun _ => star_Name)))) ma_nil (fun _ => star_BinOp)) (fun _ => star_Constant)) (fun _ => star_BinOp)) (fun _ => star_BinOp))) (me_call (fun _ => ok__law_take T) (fun _ => hr.mono (by decide)) (ma_cons (me_var 0) (ma_cons me_int ma_nil (fun _ => star_Constant)) (fun _ => star_Name))) (fun _ _ => rfl)))) 
        ml_nil) 
      (ml_one (ms_ret (me_call (fun _ => ok__law_least T) (fun _ => hr.mono (by decide)) (ma_cons (me_var 3) (ma_cons (me_var 2) ma_nil (fun _ => star_Name)) (fun _ => star_Name))))))))))
theorem ok__law_bent (T : Txt K mg) : Callee P w K mg base 2 "_law_bent" ["_law_stream_here", "_law_row"] (spM K F__law_bent) :=
  T.d__law_bent.okG (N := ["_law_stream_here", "_law_row", "_law_place", "_law_kind", "_law_some"]) (ps := ["_law_stream_here", "_law_row"]) (k := 1) (b := m__law_bent) sc__law_bent (fun _ _ _ _ _ _ us hl => match us, hl with | [_, _], _ => rfl) fun f cdv A outer s H E hr => 
    (ml_cons (ms_set 2 (fun _ => sc__law_bent.nd) (me_call (fun _ => ok__law_take T) (fun _ => hr.mono (by decide)) (ma_cons (me_var 0) (ma_cons (me_callB (q_len (fun _ => rfl)) (fun _ => T.hB.of "len") boot_len (ma_cons (me_var 1) ma_nil (fun _ => star_Name))) ma_nil (fun _ => star_Call)) (fun _ => star_Name)))) 
      (ml_cons (ms_set 3 (fun _ => sc__law_bent.nd) (me_call (fun _ => ok__law_take T) (fun _ => hr.mono (by decide)) (ma_cons (me_var 0) (ma_cons me_int ma_nil (fun _ => star_Constant)) (fun _ => star_Name)))) 
      (ml_cons (ms_if (mt_cmp (q_eq (fun _ => rfl) (fun _ => hr.units)) (me_var 3) me_int) 
        (ml_one (ms_ret (me_op (q_add (fun _ => rfl)) (me_sl (fun _ => rfl) (me_var 1) mo_none (mo_some (me_var 2))) (me_sl (fun _ => rfl) (me_var 1) (mo_some (me_op (q_add (fun _ => rfl)) (me_var 2) me_int)) mo_none)))) 
        ml_nil) 
      (ml_cons (ms_if (mt_cmp (q_eq (fun _ => rfl) (fun _ => hr.units)) (me_var 3) me_int) 
        (ml_one (ms_ret (me_op (q_add (fun _ => rfl)) (me_op (q_add (fun _ => rfl)) (me_sl (fun _ => rfl) (me_var 1) mo_none (mo_some (me_var 2))) (me_tup (ma_cons (me_ix (q_ix (fun _ => rfl)) (me_var 1) (me_var 2) (fun _ _ => rfl)) ma_nil (fun _ => star_Subscript)))) (me_sl (fun _ => rfl) (me_var 1) (mo_some (me_var 2)) mo_none)))) 
        ml_nil) 
      (ml_cons (ms_set 4 (fun _ => sc__law_bent.nd) (me_lst (ma_cons me_non (ma_cons me_bl (ma_cons me_bl (ma_cons (me_un q_neg me_int) (ma_cons me_int (ma_cons me_int (ma_cons me_int (ma_cons (me_op (q_add (fun _ => rfl)) (me_op q_pow me_int me_int) me_int) (ma_cons me_str (ma_cons me_str (ma_cons (me_tup ma_nil) (ma_cons (me_tup (ma_cons me_int (ma_cons me_int ma_nil (fun _ => star_Constant)) (fun _ => star_Constant))) (ma_cons (me_tup (ma_cons me_int (ma_cons me_int ma_nil (fun _ => star_Constant)) (fun _ => star_Constant))) (ma_cons (me_tup (ma_cons me_int (ma_cons me_int ma_nil (fun _ => star_Constant)) (fun _ => star_Constant))) (ma_cons (me_tup (ma_cons me_int (ma_cons me_int ma_nil (fun _ => star_Constant)) (fun _ => star_Constant))) (ma_cons me_dict0 ma_nil (fun _ => star_Dict)) (fun _ => star_Tuple)) (fun _ => star_Tuple)) (fun _ => star_Tuple)) (fun _ => star_Tuple)) (fun _ => star_Tuple)) (fun _ => star_Constant)) (fun _ => star_Constant)) (fun _ => star_BinOp)) (fun _ => star_Constant)) (fun _ => star_Constant)) (fun _ => star_Constant)) (fun _ => star_UnaryOp)) (fun _ => star_Constant)) (fun _ => star_Constant)) (fun _ => star_Constant)))) 
      (ml_one (ms_ret (me_op (q_add (fun _ => rfl)) (me_op (q_add (fun _ => rfl)) (me_sl (fun _ => rfl) (me_var 1) mo_none (mo_some (me_var 2))) (me_tup (ma_cons (me_ix (q_ix (fun _ => rfl)) (me_var 4) (me_call (fun _ => ok__law_take T) (fun _ => hr.mono (by decide)) (ma_cons (me_var 0) (ma_cons me_int ma_nil (fun _ => star_Constant)) (fun _ => star_Name))) (fun _ _ => rfl)) ma_nil (fun _ => star_Subscript)))) (me_sl (fun _ => rfl) (me_var 1) (mo_some (me_op (q_add (fun _ => rfl)) (me_var 2) me_int)) mo_none)))))))))
theorem ok__law_any (T : Txt K mg) : ∀ n : Nat, Callee P w K mg base (n + 2) "_law_any" ["_law_stream_here", "_law_script", "_law_depth"] (spM K (F__law_any n))
  | 0 => (T.d__law_any.okNone (N := ["_law_stream_here", "_law_script", "_law_depth", "_law_kind", "_law_some"]) (ps := ["_law_stream_here", "_law_script", "_law_depth"]) (k := 1) sc__law_any (fun _ _ _ _ _ _ us hl => match us, hl with | [_, _, _], _ => rfl)).mono (by decide)
  | n + 1 => (T.d__law_any.okG (N := ["_law_stream_here", "_law_script", "_law_depth", "_law_kind", "_law_some"]) (ps := ["_law_stream_here", "_law_script", "_law_depth"]) (k := n + 2) (b := m__law_any (F__law_any n)) sc__law_any (fun _ _ _ _ _ _ us hl => match us, hl with | [_, _, _], _ => rfl) fun f cdv A outer s H E hr => 
    (ml_cons (ms_set 3 (fun _ => sc__law_any.nd) (me_call (fun _ => ok__law_take T) (fun _ => hr.mono (by omega)) (ma_cons (me_var 0) (ma_cons (me_op q_sub me_int (me_op q_mul me_int (me_callT q_int (fun _ => T.hB.of "int") boot_int (ma_cons (me_cmp (q_eq (fun _ => rfl) (fun _ => hr.units)) (me_var 2) me_int) ma_nil (fun _ => star_Compare))))) ma_nil (fun _ => star_BinOp)) (fun _ => star_Name)))) 
      (ml_cons (ms_if (mt_cmp (q_eq (fun _ => rfl) (fun _ => hr.units)) (me_var 3) me_int) 
        (ml_one (ms_ret (me_if (mt_cmp (q_ne (fun _ => rfl) (fun _ => hr.units)) (me_var 1) (me_lst ma_nil)) (me_op q_sub (me_op q_mod (me_ix (q_ix (fun _ => rfl)) (me_var 1) me_int (fun _ _ => rfl)) (me_op q_pow me_int me_int)) (me_op q_pow me_int me_int)) (me_un q_neg me_int)))) 
        ml_nil) 
      (ml_cons (ms_if (mt_cmp (q_eq (fun _ => rfl) (fun _ => hr.units)) (me_var 3) me_int) 
        (ml_one (ms_ret (me_ix (q_ix (fun _ => rfl)) (me_lst (ma_cons me_int (ma_cons me_int (ma_cons me_int (ma_cons me_int (ma_cons (me_un q_neg me_int) (ma_cons me_int (ma_cons me_int ma_nil (fun _ => star_Constant)) (fun _ => star_Constant)) (fun _ => star_UnaryOp)) (fun _ => star_Constant)) (fun _ => star_Constant)) (fun _ => star_Constant)) (fun _ => star_Constant))) (me_call (fun _ => ok__law_take T) (fun _ => hr.mono (by omega)) (ma_cons (me_var 0) (ma_cons me_int ma_nil (fun _ => star_Constant)) (fun _ => star_Name))) (fun _ _ => rfl)))) 
        ml_nil) 
      (ml_cons (ms_if (mt_cmp (q_eq (fun _ => rfl) (fun _ => hr.units)) (me_var 3) me_int) 
        (ml_one (ms_ret (me_ix (q_ix (fun _ => rfl)) (me_lst (ma_cons me_bl (ma_cons me_bl (ma_cons me_non ma_nil (fun _ => star_Constant)) (fun _ => star_Constant)) (fun _ => star_Constant))) (me_call (fun _ => ok__law_take T) (fun _ => hr.mono (by omega)) (ma_cons (me_var 0) (ma_cons me_int ma_nil (fun _ => star_Constant)) (fun _ => star_Name))) (fun _ _ => rfl)))) 
        ml_nil) 
      (ml_cons (ms_if (mt_cmp q_lt (me_var 3) me_int) 
        (ml_one (ms_ret (me_ix (q_ix (fun _ => rfl)) (me_lst (ma_cons me_str (ma_cons me_str (ma_cons me_str (ma_cons me_str (ma_cons me_str (ma_cons me_str ma_nil (fun _ => star_Constant)) (fun _ => star_Constant)) (fun _ => star_Constant)) (fun _ => star_Constant)) (fun _ => star_Constant)) (fun _ => star_Constant))) (me_call (fun _ => ok__law_take T) (fun _ => hr.mono (by omega)) (ma_cons (me_var 0) (ma_cons me_int ma_nil (fun _ => star_Constant)) (fun _ => star_Name))) (fun _ _ => rfl)))) 
        ml_nil) 
      (ml_cons (ms_setLc 4 (fun _ => sc__law_any.nd) (N' := (["_law_stream_here", "_law_script", "_law_depth", "_law_k"] : List Str)) (cap := [some 0, some 1, some 2, none]) (fun _ => rfl) (fun _ => lcsc_of (sc0 := defScope st__law_any) (N := ["_law_stream_here", "_law_script", "_law_depth", "_law_kind", "_law_some"]) rfl rfl (by decide +kernel)) (mi_rng1 (fun _ => T.hB.of "range") (ma_cons (me_call (fun _ => ok__law_take T) (fun _ => hr.mono (by omega)) (ma_cons (me_var 0) (ma_cons me_int ma_nil (fun _ => star_Constant)) (fun _ => star_Name))) ma_nil (fun _ => star_Call))) (mg_name 3 (fun _ => (show (["_law_stream_here", "_law_script", "_law_depth", "_law_k"] : List Str).Nodup by decide +kernel))) mf_nil (me_call (fun _ => ok__law_any T n) (fun _ => hr.mono (by omega)) (ma_cons (me_var 0) (ma_cons (me_var 1) (ma_cons (me_op q_sub (me_var 2) me_int) ma_nil (fun _ => star_BinOp)) (fun _ => star_Name)) (fun _ => star_Name)))) 
      (ml_cons (ms_if (mt_cmp (q_eq (fun _ => rfl) (fun _ => hr.units)) (me_var 3) me_int) 
        (ml_one (ms_ret (me_callT (q_tuple (fun _ => rfl)) (fun _ => T.hB.of "tuple") boot_tuple (ma_cons (me_var 4) ma_nil (fun _ => star_Name))))) 
        ml_nil) 
      (ml_cons (ms_if (mt_cmp (q_eq (fun _ => rfl) (fun _ => hr.units)) (me_var 3) me_int) 
        (ml_one (ms_ret (me_var 4))) 
        ml_nil) 
      (ml_one (ms_ret (me_dict (md_cons me_int (me_var 4) (md_cons me_str me_non md_nil)))))))))))))).mono (by omega)
theorem ok__law_great (T : Txt K mg) : Callee P w K mg base 2 "_law_great" ["_law_stream_here"] (spM K F__law_great) :=
  T.d__law_great.okG (N := ["_law_stream_here", "_law_one", "_law_other"]) (ps := ["_law_stream_here"]) (k := 1) (b := m__law_great) sc__law_great (fun _ _ _ _ _ _ us hl => match us, hl with | [_], _ => rfl) fun f cdv A outer s H E hr => 
    (ml_cons (ms_set 1 (fun _ => sc__law_great.nd) (me_op q_pow (me_op (q_add (fun _ => rfl)) me_int (me_call (fun _ => ok__law_take T) (fun _ => hr.mono (by decide)) (ma_cons (me_var 0) (ma_cons me_int ma_nil (fun _ => star_Constant)) (fun _ => star_Name)))) me_int)) 
      (ml_cons (ms_set 2 (fun _ => sc__law_great.nd) (me_op q_mul (me_op q_mul (me_op q_mul (me_var 1) (me_var 1)) (me_var 1)) (me_op (q_add (fun _ => rfl)) me_int (me_call (fun _ => ok__law_take T) (fun _ => hr.mono (by decide)) (ma_cons (me_var 0) (ma_cons me_int ma_nil (fun _ => star_Constant)) (fun _ => star_Name)))))) 
      (ml_one (ms_ret (me_lst (ma_cons (me_tup (ma_cons (me_var 2) (ma_cons (me_var 1) ma_nil (fun _ => star_Name)) (fun _ => star_Name))) (ma_cons (me_tup (ma_cons (me_var 1) (ma_cons (me_op (q_add (fun _ => rfl)) (me_var 2) me_int) ma_nil (fun _ => star_BinOp)) (fun _ => star_Name))) (ma_cons (me_tup (ma_cons (me_op (q_add (fun _ => rfl)) (me_var 2) me_int) (ma_cons (me_var 1) ma_nil (fun _ => star_Name)) (fun _ => star_BinOp))) (ma_cons (me_tup (ma_cons (me_var 1) (ma_cons me_int ma_nil (fun _ => star_Constant)) (fun _ => star_Name))) (ma_cons (me_tup (ma_cons (me_un q_neg (me_var 2)) (ma_cons me_int ma_nil (fun _ => star_Constant)) (fun _ => star_UnaryOp))) (ma_cons (me_tup (ma_cons (me_var 2) (ma_cons (me_un q_neg (me_var 1)) ma_nil (fun _ => star_UnaryOp)) (fun _ => star_Name))) ma_nil (fun _ => star_Tuple)) (fun _ => star_Tuple)) (fun _ => star_Tuple)) (fun _ => star_Tuple)) (fun _ => star_Tuple)) (fun _ => star_Tuple)))))))
theorem ok_common (T : Txt K mg) : Callee P w K mg base 1 "common" ["one", "other"] (spM K F_common) :=
  T.d_common.okG (N := ["one", "other"]) (ps := ["one", "other"]) (k := 0) (b := m_common) sc_common (fun _ _ _ _ _ _ us hl => match us, hl with | [_, _], _ => rfl) fun f cdv A outer s H E hr => 
    (ml_cons (ms_while (fun _ => PassesOwn.never) (mt_tru (fun _ => rfl) (me_var 1)) (ml_one (ms_par 0 1 (fun _ => rfl) (fun _ => sc_common.nd) (ma_cons (me_var 1) (ma_cons (me_op q_mod (me_var 0) (me_var 1)) ma_nil (fun _ => star_BinOp)) (fun _ => star_Name))))) 
      (ml_one (ms_ret (me_var 0))))
theorem ok_is_whole (T : Txt K mg) : Callee P w K mg base 1 "is_whole" ["thing"] (spM K F_is_whole) :=
  T.d_is_whole.okG (N := ["thing"]) (ps := ["thing"]) (k := 0) (b := m_is_whole) sc_is_whole (fun _ _ _ _ _ _ us hl => match us, hl with | [_], _ => rfl) fun f cdv A outer s H E hr => 
    (ml_one (ms_ret (me_and (me_isi (T := "int") (fun _ => rfl) (by decide) (me_var 0) (fun _ => star_Name) (fun _ => T.hB.of "isinstance") (fun _ => T.hB.of "int") boot_int) (me_one (me_not (me_isi (T := "bool") (fun _ => rfl) (by decide) (me_var 0) (fun _ => star_Name) (fun _ => T.hB.of "isinstance") (fun _ => T.hB.of "bool") boot_bool))))))
theorem ok_is_row (T : Txt K mg) : Callee P w K mg base 1 "is_row" ["thing"] (spM K F_is_row) :=
  T.d_is_row.okG (N := ["thing"]) (ps := ["thing"]) (k := 0) (b := m_is_row) sc_is_row (fun _ _ _ _ _ _ us hl => match us, hl with | [_], _ => rfl) fun f cdv A outer s H E hr => 
    (ml_one (ms_ret (me_isi2 (T := "list") (U := "tuple") (fun _ => rfl) (by decide) (by decide) (me_var 0) (fun _ => star_Name) (fun _ => T.hB.of "isinstance") (fun _ => T.hB.of "list") (fun _ => T.hB.of "tuple") boot_list boot_tuple)))
theorem ok_is_row_of (T : Txt K mg) : Callee P w K mg base 2 "is_row_of" ["thing", "length"] (spM K F_is_row_of) :=
  T.d_is_row_of.okG (N := ["thing", "length"]) (ps := ["thing", "length"]) (k := 1) (b := m_is_row_of) sc_is_row_of (fun _ _ _ _ _ _ us hl => match us, hl with | [_, _], _ => rfl) fun f cdv A outer s H E hr => 
    (ml_one (ms_ret (me_and (me_call (fun _ => ok_is_row T) (fun _ => hr.mono (by decide)) (ma_cons (me_var 0) ma_nil (fun _ => star_Name))) (me_one (me_cmp (q_eq (fun _ => rfl) (fun _ => hr.units)) (me_callB (q_len (fun _ => rfl)) (fun _ => T.hB.of "len") boot_len (ma_cons (me_var 0) ma_nil (fun _ => star_Name))) (me_var 1))))))
theorem ok_has_amount_numbers (T : Txt K mg) : Callee P w K mg base 3 "has_amount_numbers" ["thing"] (spM K F_has_amount_numbers) :=
  T.d_has_amount_numbers.okG (N := ["thing"]) (ps := ["thing"]) (k := 2) (b := m_has_amount_numbers) sc_has_amount_numbers (fun _ _ _ _ _ _ us hl => match us, hl with | [_], _ => rfl) fun f cdv A outer s H E hr => 
    (ml_cons (ms_if (mt_w (mw_or (mt_not (mt_val (me_call (fun _ => ok_is_row_of T) (fun _ => hr.mono (by decide)) (ma_cons (me_var 0) (ma_cons me_int ma_nil (fun _ => star_Constant)) (fun _ => star_Name))))) (mw_or (mt_not (mt_val (me_call (fun _ => ok_is_whole T) (fun _ => hr.mono (by decide)) (ma_cons (me_ix (q_ix (fun _ => rfl)) (me_var 0) me_int (fun _ _ => rfl)) ma_nil (fun _ => star_Subscript))))) (mw_or1 (mt_not (mt_val (me_call (fun _ => ok_is_whole T) (fun _ => hr.mono (by decide)) (ma_cons (me_ix (q_ix (fun _ => rfl)) (me_var 0) me_int (fun _ _ => rfl)) ma_nil (fun _ => star_Subscript))))))))) 
        (ml_one (ms_ret me_bl)) 
        ml_nil) 
      (ml_one (ms_ret (me_and (me_cmp q_ge (me_ix (q_ix (fun _ => rfl)) (me_var 0) me_int (fun _ _ => rfl)) me_int) (me_one (me_cmp q_ge (me_ix (q_ix (fun _ => rfl)) (me_var 0) me_int (fun _ _ => rfl)) me_int))))))
theorem ok_is_amount (T : Txt K mg) : Callee P w K mg base 4 "is_amount" ["thing"] (spM K F_is_amount) :=
  T.d_is_amount.okG (N := ["thing"]) (ps := ["thing"]) (k := 3) (b := m_is_amount) sc_is_amount (fun _ _ _ _ _ _ us hl => match us, hl with | [_], _ => rfl) fun f cdv A outer s H E hr => 
    (ml_one (ms_ret (me_and (me_call (fun _ => ok_has_amount_numbers T) (fun _ => hr.mono (by decide)) (ma_cons (me_var 0) ma_nil (fun _ => star_Name))) (me_one (me_cmp (q_eq (fun _ => rfl) (fun _ => hr.units)) (me_call (fun _ => ok_common T) (fun _ => hr.mono (by decide)) (ma_cons (me_ix (q_ix (fun _ => rfl)) (me_var 0) me_int (fun _ _ => rfl)) (ma_cons (me_ix (q_ix (fun _ => rfl)) (me_var 0) me_int (fun _ _ => rfl)) ma_nil (fun _ => star_Subscript)) (fun _ => star_Subscript))) me_int)))))
theorem ok_is_in_parts (T : Txt K mg) : Callee P w K mg base 4 "is_in_parts" ["thing"] (spM K F_is_in_parts) :=
  T.d_is_in_parts.okG (N := ["thing"]) (ps := ["thing"]) (k := 3) (b := m_is_in_parts) sc_is_in_parts (fun _ _ _ _ _ _ us hl => match us, hl with | [_], _ => rfl) fun f cdv A outer s H E hr => 
    (ml_one (ms_ret (me_and (me_call (fun _ => ok_has_amount_numbers T) (fun _ => hr.mono (by decide)) (ma_cons (me_var 0) ma_nil (fun _ => star_Name))) (me_and (me_cmp (q_eq (fun _ => rfl) (fun _ => hr.units)) (me_op q_mod (me_globI (fun _ => T.c_BELOW)) (me_ix (q_ix (fun _ => rfl)) (me_var 0) me_int (fun _ _ => rfl))) me_int) (me_one (me_cmp (q_eq (fun _ => rfl) (fun _ => hr.units)) (me_call (fun _ => ok_common T) (fun _ => hr.mono (by decide)) (ma_cons (me_ix (q_ix (fun _ => rfl)) (me_var 0) me_int (fun _ _ => rfl)) (ma_cons (me_ix (q_ix (fun _ => rfl)) (me_var 0) me_int (fun _ _ => rfl)) ma_nil (fun _ => star_Subscript)) (fun _ => star_Subscript))) me_int))))))
theorem ok_is_weight (T : Txt K mg) : Callee P w K mg base 5 "is_weight" ["thing"] (spM K F_is_weight) :=
  T.d_is_weight.okG (N := ["thing"]) (ps := ["thing"]) (k := 4) (b := m_is_weight) sc_is_weight (fun _ _ _ _ _ _ us hl => match us, hl with | [_], _ => rfl) fun f cdv A outer s H E hr => 
    (ml_one (ms_ret (me_and (me_call (fun _ => ok_is_in_parts T) (fun _ => hr.mono (by decide)) (ma_cons (me_var 0) ma_nil (fun _ => star_Name))) (me_one (me_cmp q_le (me_ix (q_ix (fun _ => rfl)) (me_var 0) me_int (fun _ _ => rfl)) (me_globI (fun _ => T.c_MOST_ABOVE)))))))
theorem ok__law_is_row (T : Txt K mg) : Callee P w K mg base 1 "_law_is_row" ["_law_thing"] (spM K F__law_is_row) :=
  T.d__law_is_row.okG (N := ["_law_thing"]) (ps := ["_law_thing"]) (k := 0) (b := m__law_is_row) sc__law_is_row (fun _ _ _ _ _ _ us hl => match us, hl with | [_], _ => rfl) fun f cdv A outer s H E hr => 
    (ml_one (ms_ret (me_or (me_isi (T := "list") (fun _ => rfl) (by decide) (me_var 0) (fun _ => star_Name) (fun _ => T.hB.of "isinstance") (fun _ => T.hB.of "list") boot_list) (me_one (me_isi (T := "tuple") (fun _ => rfl) (by decide) (me_var 0) (fun _ => star_Name) (fun _ => T.hB.of "isinstance") (fun _ => T.hB.of "tuple") boot_tuple)))))
theorem ok__law_is_amount (T : Txt K mg) : Callee P w K mg base 2 "_law_is_amount" ["_law_thing"] (spM K F__law_is_amount) :=
  T.d__law_is_amount.okG (N := ["_law_thing"]) (ps := ["_law_thing"]) (k := 1) (b := m__law_is_amount) sc__law_is_amount (fun _ _ _ _ _ _ us hl => match us, hl with | [_], _ => rfl) fun f cdv A outer s H E hr => 
    (ml_cons (ms_if (mt_w (mw_or (mt_not (mt_val (me_call (fun _ => ok__law_is_row T) (fun _ => hr.mono (by decide)) (ma_cons (me_var 0) ma_nil (fun _ => star_Name))))) (mw_or1 (mt_cmp (q_ne (fun _ => rfl) (fun _ => hr.units)) (me_callB (q_len (fun _ => rfl)) (fun _ => T.hB.of "len") boot_len (ma_cons (me_var 0) ma_nil (fun _ => star_Name))) me_int)))) 
        (ml_one (ms_ret me_bl)) 
        ml_nil) 
      (ml_cons (ms_if (mt_w (mw_or (mt_not (mt_val (me_callB (q_all (fun _ => rfl) (fun _ => rfl)) (fun _ => T.hB.of "all") boot_all (ma_cons (me_lc (N' := (["_law_one"] : List Str)) (cap := [none]) (fun _ => rfl) (fun _ => lcsc_of (sc0 := defScope st__law_is_amount) (N := ["_law_thing"]) rfl rfl (by decide +kernel)) (mi_seq (fun _ => rfl) (me_var 0)) (mg_name 0 (fun _ => (show (["_law_one"] : List Str).Nodup by decide +kernel))) mf_nil (me_and (me_isi (T := "int") (fun _ => rfl) (by decide) (me_var 0) (fun _ => star_Name) (fun _ => T.hB.of "isinstance") (fun _ => T.hB.of "int") boot_int) (me_one (me_not (me_isi (T := "bool") (fun _ => rfl) (by decide) (me_var 0) (fun _ => star_Name) (fun _ => T.hB.of "isinstance") (fun _ => T.hB.of "bool") boot_bool))))) ma_nil (fun _ => star_ListComp))))) (mw_or (mt_cmp q_lt (me_ix (q_ix (fun _ => rfl)) (me_var 0) me_int (fun _ _ => rfl)) me_int) (mw_or1 (mt_cmp q_lt (me_ix (q_ix (fun _ => rfl)) (me_var 0) me_int (fun _ _ => rfl)) me_int))))) 
        (ml_one (ms_ret me_bl)) 
        ml_nil) 
      (ml_one (ms_ret (me_cmp (q_eq (fun _ => rfl) (fun _ => hr.units)) (me_call (fun _ => ok__law_least T) (fun _ => hr.mono (by decide)) (ma_cons (me_ix (q_ix (fun _ => rfl)) (me_var 0) me_int (fun _ _ => rfl)) (ma_cons (me_ix (q_ix (fun _ => rfl)) (me_var 0) me_int (fun _ _ => rfl)) ma_nil (fun _ => star_Subscript)) (fun _ => star_Subscript))) (me_tup (ma_cons (me_ix (q_ix (fun _ => rfl)) (me_var 0) me_int (fun _ _ => rfl)) (ma_cons (me_ix (q_ix (fun _ => rfl)) (me_var 0) me_int (fun _ _ => rfl)) ma_nil (fun _ => star_Subscript)) (fun _ => star_Subscript))))))))
theorem ok__law_is_weight (T : Txt K mg) : Callee P w K mg base 3 "_law_is_weight" ["_law_thing"] (spM K F__law_is_weight) :=
  T.d__law_is_weight.okG (N := ["_law_thing"]) (ps := ["_law_thing"]) (k := 2) (b := m__law_is_weight) sc__law_is_weight (fun _ _ _ _ _ _ us hl => match us, hl with | [_], _ => rfl) fun f cdv A outer s H E hr => 
    (ml_one (ms_ret (me_and (me_call (fun _ => ok__law_is_amount T) (fun _ => hr.mono (by decide)) (ma_cons (me_var 0) ma_nil (fun _ => star_Name))) (me_and (me_cmp q_le (me_ix (q_ix (fun _ => rfl)) (me_var 0) me_int (fun _ _ => rfl)) (me_op q_pow me_int me_int)) (me_one (me_cmp (q_eq (fun _ => rfl) (fun _ => hr.units)) (me_op q_mod me_int (me_ix (q_ix (fun _ => rfl)) (me_var 0) me_int (fun _ _ => rfl))) me_int))))))
theorem ok__law_right (T : Txt K mg) : Callee P w K mg base 6 "_law_right" ["_law_thing"] (spM K F__law_right) :=
  T.d__law_right.okG (N := ["_law_thing", "_law_kept", "_law_amount", "_law_weight_here"]) (ps := ["_law_thing"]) (k := 5) (b := m__law_right) sc__law_right (fun _ _ _ _ _ _ us hl => match us, hl with | [_], _ => rfl) fun f cdv A outer s H E hr => 
    (ml_cons (ms_set 1 (fun _ => sc__law_right.nd) (me_callB (q_repr (fun _ => rfl) (fun _ => hr.gd) (fun _ => hr.u200)) (fun _ => T.hB.of "repr") boot_repr (ma_cons (me_var 0) ma_nil (fun _ => star_Name)))) 
      (ml_cons (ms_set 2 (fun _ => sc__law_right.nd) (me_call (fun _ => ok_is_amount T) (fun _ => hr.mono (by decide)) (ma_cons (me_var 0) ma_nil (fun _ => star_Name)))) 
      (ml_cons (ms_set 3 (fun _ => sc__law_right.nd) (me_call (fun _ => ok_is_weight T) (fun _ => hr.mono (by decide)) (ma_cons (me_var 0) ma_nil (fun _ => star_Name)))) 
      (ml_cons (ms_if (mt_w (mw_or (mt_not (mt_val (me_isi (T := "bool") (fun _ => rfl) (by decide) (me_var 2) (fun _ => star_Name) (fun _ => T.hB.of "isinstance") (fun _ => T.hB.of "bool") boot_bool))) (mw_or (mt_not (mt_val (me_isi (T := "bool") (fun _ => rfl) (by decide) (me_var 3) (fun _ => star_Name) (fun _ => T.hB.of "isinstance") (fun _ => T.hB.of "bool") boot_bool))) (mw_or1 (mt_cmp (q_ne (fun _ => rfl) (fun _ => hr.units)) (me_callB (q_repr (fun _ => rfl) (fun _ => hr.gd) (fun _ => hr.u200)) (fun _ => T.hB.of "repr") boot_repr (ma_cons (me_var 0) ma_nil (fun _ => star_Name))) (me_var 1)))))) 
        (ml_one (ms_ret me_bl)) 
        ml_nil) 
      (ml_one (ms_ret (me_and (me_cmp (q_eq (fun _ => rfl) (fun _ => hr.units)) (me_var 2) (me_call (fun _ => ok__law_is_amount T) (fun _ => hr.mono (by decide)) (ma_cons (me_var 0) ma_nil (fun _ => star_Name)))) (me_one (me_cmp (q_eq (fun _ => rfl) (fun _ => hr.units)) (me_var 3) (me_call (fun _ => ok__law_is_weight T) (fun _ => hr.mono (by decide)) (ma_cons (me_var 0) ma_nil (fun _ => star_Name))))))))))))
theorem ok__law_lists (T : Txt K mg) : ∀ n : Nat, Callee P w K mg base (n + 1) "_law_lists" ["_law_thing"] (spM K (F__law_lists n))
  | 0 => (T.d__law_lists.okNone (N := ["_law_thing"]) (ps := ["_law_thing"]) (k := 0) sc__law_lists (fun _ _ _ _ _ _ us hl => match us, hl with | [_], _ => rfl)).mono (by decide)
  | n + 1 => (T.d__law_lists.okG (N := ["_law_thing"]) (ps := ["_law_thing"]) (k := n + 1) (b := m__law_lists (F__law_lists n)) sc__law_lists (fun _ _ _ _ _ _ us hl => match us, hl with | [_], _ => rfl) fun f cdv A outer s H E hr => 
    (ml_cons (ms_if (mt_val (me_isi (T := "tuple") (fun _ => rfl) (by decide) (me_var 0) (fun _ => star_Name) (fun _ => T.hB.of "isinstance") (fun _ => T.hB.of "tuple") boot_tuple)) 
        (ml_one (ms_ret (me_lc (N' := (["_law_one"] : List Str)) (cap := [none]) (fun _ => rfl) (fun _ => lcsc_of (sc0 := defScope st__law_lists) (N := ["_law_thing"]) rfl rfl (by decide +kernel)) (mi_seq (fun _ => rfl) (me_var 0)) (mg_name 0 (fun _ => (show (["_law_one"] : List Str).Nodup by decide +kernel))) mf_nil (me_call (fun _ => ok__law_lists T n) (fun _ => hr.mono (by omega)) (ma_cons (me_var 0) ma_nil (fun _ => star_Name)))))) 
        ml_nil) 
      (ml_one (ms_ret (me_var 0))))).mono (by omega)
theorem fn_law (T : Txt K mg) : ∃ f fd, mg "law" = some (.ref f) ∧ (∀ (s : Shared) (u : Value), BindsTo s fd ⟨[u], []⟩ [("_law_script", u)]) ∧ ∀ base, FnOk P w K mg base CX0 14 f fd ["_law_script"] (spM K F_law) :=
  T.d_law.okLG (N := ["_law_script", "_law_k", "_law_stream_here", "_law_weight_here", "_law_some", "_law_thing"]) (k := 13) (b := m_law) sc_law rfl (fun _ _ _ _ _ _ us hl => match us, hl with | [_], _ => rfl) fun base f cdv A outer s H E hr => 
    (ml_cons (ms_for (fun _ => PassesOwn.never) (fun _ => rfl) (mi_rng1 (fun _ => T.hB.of "range") (ma_cons me_int ma_nil (fun _ => star_Constant))) (mg_name 1 (fun _ => sc_law.nd)) 
        (ml_cons (ms_set 2 (fun _ => sc_law.nd) (me_call (fun _ => ok__law_stream T) (fun _ => hr.mono (by decide)) (ma_cons (me_var 0) (ma_cons (me_var 1) ma_nil (fun _ => star_Name)) (fun _ => star_Name)))) 
      (ml_cons (ms_set 3 (fun _ => sc_law.nd) (me_call (fun _ => ok__law_weight T) (fun _ => hr.mono (by decide)) (ma_cons (me_var 2) ma_nil (fun _ => star_Name)))) 
      (ml_cons (ms_set 4 (fun _ => sc_law.nd) (me_new (ma_cons (me_call (fun _ => ok__law_any T 5) (fun _ => hr.mono (by decide)) (ma_cons (me_var 2) (ma_cons (me_var 0) (ma_cons me_int ma_nil (fun _ => star_Constant)) (fun _ => star_Name)) (fun _ => star_Name))) (ma_cons (me_call (fun _ => ok__law_any T 5) (fun _ => hr.mono (by decide)) (ma_cons (me_var 2) (ma_cons (me_var 0) (ma_cons me_int ma_nil (fun _ => star_Constant)) (fun _ => star_Name)) (fun _ => star_Name))) (ma_cons (me_var 3) (ma_cons (me_call (fun _ => ok__law_bent T) (fun _ => hr.mono (by decide)) (ma_cons (me_var 2) (ma_cons (me_var 3) ma_nil (fun _ => star_Name)) (fun _ => star_Name))) ma_nil (fun _ => star_Call)) (fun _ => star_Name)) (fun _ => star_Call)) (fun _ => star_Call)))) 
      (ml_cons (ms_expr (me_append (fun _ => rfl) (me_var 4) (ma_cons (me_call (fun _ => ok__law_bent T) (fun _ => hr.mono (by decide)) (ma_cons (me_var 2) (ma_cons (me_op (q_add (fun _ => rfl)) (me_call (fun _ => ok__law_bent T) (fun _ => hr.mono (by decide)) (ma_cons (me_var 2) (ma_cons (me_var 3) ma_nil (fun _ => star_Name)) (fun _ => star_Name))) (me_tup (ma_cons me_int ma_nil (fun _ => star_Constant)))) ma_nil (fun _ => star_BinOp)) (fun _ => star_Name))) ma_nil (fun _ => star_Call)))) 
      (ml_one (ms_for (fun _ => PassesOwn.never) (fun _ => rfl) (mi_seq (fun _ => rfl) (me_op (q_add (fun _ => rfl)) (me_var 4) (me_call (fun _ => ok__law_great T) (fun _ => hr.mono (by decide)) (ma_cons (me_var 2) ma_nil (fun _ => star_Name))))) (mg_name 5 (fun _ => sc_law.nd)) 
        (ml_one (ms_if (mt_w (mw_or (mt_not (mt_val (me_call (fun _ => ok__law_right T) (fun _ => hr.mono (by decide)) (ma_cons (me_var 5) ma_nil (fun _ => star_Name))))) (mw_or (mt_not (mt_val (me_call (fun _ => ok__law_right T) (fun _ => hr.mono (by decide)) (ma_cons (me_call (fun _ => ok__law_lists T 12) (fun _ => hr.mono (by decide)) (ma_cons (me_var 5) ma_nil (fun _ => star_Name))) ma_nil (fun _ => star_Call))))) (mw_or1 (mt_not (mt_val (me_call (fun _ => ok__law_right T) (fun _ => hr.mono (by decide)) (ma_cons (me_tup (ma_cons (me_var 5) ma_nil (fun _ => star_Name))) ma_nil (fun _ => star_Tuple))))))))) 
        (ml_one (ms_ret me_bl)) 
        ml_nil))))))))) 
      (ml_one (ms_ret me_bl)))
theorem txt_mk {h : Heap} {t_MOST_ABOVE : Tok} {t_BELOW : Tok} {f__law_stream : Addr} {od__law_stream an__law_stream : Option Addr} {sl__law_stream : Array (Option Value)} {oc__law_stream kV__law_stream dc__law_stream pm__law_stream cd__law_stream ct__law_stream : Value} {f__law_take : Addr} {od__law_take an__law_take : Option Addr} {sl__law_take : Array (Option Value)} {oc__law_take kV__law_take dc__law_take pm__law_take cd__law_take ct__law_take : Value} {f__law_pick : Addr} {od__law_pick an__law_pick : Option Addr} {sl__law_pick : Array (Option Value)} {oc__law_pick kV__law_pick dc__law_pick pm__law_pick cd__law_pick ct__law_pick : Value} {f__law_least : Addr} {od__law_least an__law_least : Option Addr} {sl__law_least : Array (Option Value)} {oc__law_least kV__law_least dc__law_least pm__law_least cd__law_least ct__law_least : Value} {f__law_weight : Addr} {od__law_weight an__law_weight : Option Addr} {sl__law_weight : Array (Option Value)} {oc__law_weight kV__law_weight dc__law_weight pm__law_weight cd__law_weight ct__law_weight : Value} {f__law_bent : Addr} {od__law_bent an__law_bent : Option Addr} {sl__law_bent : Array (Option Value)} {oc__law_bent kV__law_bent dc__law_bent pm__law_bent cd__law_bent ct__law_bent : Value} {f__law_any : Addr} {od__law_any an__law_any : Option Addr} {sl__law_any : Array (Option Value)} {oc__law_any kV__law_any dc__law_any pm__law_any cd__law_any ct__law_any : Value} {f__law_great : Addr} {od__law_great an__law_great : Option Addr} {sl__law_great : Array (Option Value)} {oc__law_great kV__law_great dc__law_great pm__law_great cd__law_great ct__law_great : Value} {f_common : Addr} {od_common an_common : Option Addr} {sl_common : Array (Option Value)} {oc_common kV_common dc_common pm_common cd_common ct_common : Value} {f_is_whole : Addr} {od_is_whole an_is_whole : Option Addr} {sl_is_whole : Array (Option Value)} {oc_is_whole kV_is_whole dc_is_whole pm_is_whole cd_is_whole ct_is_whole : Value} {f_is_row : Addr} {od_is_row an_is_row : Option Addr} {sl_is_row : Array (Option Value)} {oc_is_row kV_is_row dc_is_row pm_is_row cd_is_row ct_is_row : Value} {f_is_row_of : Addr} {od_is_row_of an_is_row_of : Option Addr} {sl_is_row_of : Array (Option Value)} {oc_is_row_of kV_is_row_of dc_is_row_of pm_is_row_of cd_is_row_of ct_is_row_of : Value} {f_has_amount_numbers : Addr} {od_has_amount_numbers an_has_amount_numbers : Option Addr} {sl_has_amount_numbers : Array (Option Value)} {oc_has_amount_numbers kV_has_amount_numbers dc_has_amount_numbers pm_has_amount_numbers cd_has_amount_numbers ct_has_amount_numbers : Value} {f_is_amount : Addr} {od_is_amount an_is_amount : Option Addr} {sl_is_amount : Array (Option Value)} {oc_is_amount kV_is_amount dc_is_amount pm_is_amount cd_is_amount ct_is_amount : Value} {f_is_in_parts : Addr} {od_is_in_parts an_is_in_parts : Option Addr} {sl_is_in_parts : Array (Option Value)} {oc_is_in_parts kV_is_in_parts dc_is_in_parts pm_is_in_parts cd_is_in_parts ct_is_in_parts : Value} {f_is_weight : Addr} {od_is_weight an_is_weight : Option Addr} {sl_is_weight : Array (Option Value)} {oc_is_weight kV_is_weight dc_is_weight pm_is_weight cd_is_weight ct_is_weight : Value} {f__law_is_row : Addr} {od__law_is_row an__law_is_row : Option Addr} {sl__law_is_row : Array (Option Value)} {oc__law_is_row kV__law_is_row dc__law_is_row pm__law_is_row cd__law_is_row ct__law_is_row : Value} {f__law_is_amount : Addr} {od__law_is_amount an__law_is_amount : Option Addr} {sl__law_is_amount : Array (Option Value)} {oc__law_is_amount kV__law_is_amount dc__law_is_amount pm__law_is_amount cd__law_is_amount ct__law_is_amount : Value} {f__law_is_weight : Addr} {od__law_is_weight an__law_is_weight : Option Addr} {sl__law_is_weight : Array (Option Value)} {oc__law_is_weight kV__law_is_weight dc__law_is_weight pm__law_is_weight cd__law_is_weight ct__law_is_weight : Value} {f__law_right : Addr} {od__law_right an__law_right : Option Addr} {sl__law_right : Array (Option Value)} {oc__law_right kV__law_right dc__law_right pm__law_right cd__law_right ct__law_right : Value} {f__law_lists : Addr} {od__law_lists an__law_lists : Option Addr} {sl__law_lists : Array (Option Value)} {oc__law_lists kV__law_lists dc__law_lists pm__law_lists cd__law_lists ct__law_lists : Value} {f_law : Addr} {od_law an_law : Option Addr} {sl_law : Array (Option Value)} {oc_law kV_law dc_law pm_law cd_law ct_law : Value} (X : K.In h) (G : h.Ns mainGlobals mg) (z_all : PySem.W.nsIn K mainGlobals "all" = some none) (z_bool : PySem.W.nsIn K mainGlobals "bool" = some none) (z_int : PySem.W.nsIn K mainGlobals "int" = some none) (z_isinstance : PySem.W.nsIn K mainGlobals "isinstance" = some none) (z_len : PySem.W.nsIn K mainGlobals "len" = some none) (z_list : PySem.W.nsIn K mainGlobals "list" = some none) (z_range : PySem.W.nsIn K mainGlobals "range" = some none) (z_repr : PySem.W.nsIn K mainGlobals "repr" = some none) (z_tuple : PySem.W.nsIn K mainGlobals "tuple" = some none) (u_MOST_ABOVE : PySem.W.nsIn K mainGlobals "MOST_ABOVE" = some (some (.int 1000000000000 t_MOST_ABOVE))) (u_BELOW : PySem.W.nsIn K mainGlobals "BELOW" = some (some (.int 55440 t_BELOW))) (a__law_stream : PySem.W.nsIn K mainGlobals "_law_stream" = some (some (.ref f__law_stream))) (l__law_stream : K.lookup f__law_stream = some ⟨oc__law_stream, od__law_stream, .func (PySem.W.fnOf "_law_stream" "_law_stream" (defArgs st__law_stream) (defBody st__law_stream) (defScope st__law_stream) .none kV__law_stream dc__law_stream pm__law_stream an__law_stream cd__law_stream ct__law_stream), sl__law_stream⟩) (c__law_stream : PySem.W.codeIn K cd__law_stream "_law_stream" = true) (k__law_stream : PySem.W.keepIn K (.ref f__law_stream) = true) (a__law_take : PySem.W.nsIn K mainGlobals "_law_take" = some (some (.ref f__law_take))) (l__law_take : K.lookup f__law_take = some ⟨oc__law_take, od__law_take, .func (PySem.W.fnOf "_law_take" "_law_take" (defArgs st__law_take) (defBody st__law_take) (defScope st__law_take) .none kV__law_take dc__law_take pm__law_take an__law_take cd__law_take ct__law_take), sl__law_take⟩) (c__law_take : PySem.W.codeIn K cd__law_take "_law_take" = true) (k__law_take : PySem.W.keepIn K (.ref f__law_take) = true) (a__law_pick : PySem.W.nsIn K mainGlobals "_law_pick" = some (some (.ref f__law_pick))) (l__law_pick : K.lookup f__law_pick = some ⟨oc__law_pick, od__law_pick, .func (PySem.W.fnOf "_law_pick" "_law_pick" (defArgs st__law_pick) (defBody st__law_pick) (defScope st__law_pick) .none kV__law_pick dc__law_pick pm__law_pick an__law_pick cd__law_pick ct__law_pick), sl__law_pick⟩) (c__law_pick : PySem.W.codeIn K cd__law_pick "_law_pick" = true) (k__law_pick : PySem.W.keepIn K (.ref f__law_pick) = true) (a__law_least : PySem.W.nsIn K mainGlobals "_law_least" = some (some (.ref f__law_least))) (l__law_least : K.lookup f__law_least = some ⟨oc__law_least, od__law_least, .func (PySem.W.fnOf "_law_least" "_law_least" (defArgs st__law_least) (defBody st__law_least) (defScope st__law_least) .none kV__law_least dc__law_least pm__law_least an__law_least cd__law_least ct__law_least), sl__law_least⟩) (c__law_least : PySem.W.codeIn K cd__law_least "_law_least" = true) (k__law_least : PySem.W.keepIn K (.ref f__law_least) = true) (a__law_weight : PySem.W.nsIn K mainGlobals "_law_weight" = some (some (.ref f__law_weight))) (l__law_weight : K.lookup f__law_weight = some ⟨oc__law_weight, od__law_weight, .func (PySem.W.fnOf "_law_weight" "_law_weight" (defArgs st__law_weight) (defBody st__law_weight) (defScope st__law_weight) .none kV__law_weight dc__law_weight pm__law_weight an__law_weight cd__law_weight ct__law_weight), sl__law_weight⟩) (c__law_weight : PySem.W.codeIn K cd__law_weight "_law_weight" = true) (k__law_weight : PySem.W.keepIn K (.ref f__law_weight) = true) (a__law_bent : PySem.W.nsIn K mainGlobals "_law_bent" = some (some (.ref f__law_bent))) (l__law_bent : K.lookup f__law_bent = some ⟨oc__law_bent, od__law_bent, .func (PySem.W.fnOf "_law_bent" "_law_bent" (defArgs st__law_bent) (defBody st__law_bent) (defScope st__law_bent) .none kV__law_bent dc__law_bent pm__law_bent an__law_bent cd__law_bent ct__law_bent), sl__law_bent⟩) (c__law_bent : PySem.W.codeIn K cd__law_bent "_law_bent" = true) (k__law_bent : PySem.W.keepIn K (.ref f__law_bent) = true) (a__law_any : PySem.W.nsIn K mainGlobals "_law_any" = some (some (.ref f__law_any))) (l__law_any : K.lookup f__law_any = some ⟨oc__law_any, od__law_any, .func (PySem.W.fnOf "_law_any" "_law_any" (defArgs st__law_any) (defBody st__law_any) (defScope st__law_any) .none kV__law_any dc__law_any pm__law_any an__law_any cd__law_any ct__law_any), sl__law_any⟩) (c__law_any : PySem.W.codeIn K cd__law_any "_law_any" = true) (k__law_any : PySem.W.keepIn K (.ref f__law_any) = true) (a__law_great : PySem.W.nsIn K mainGlobals "_law_great" = some (some (.ref f__law_great))) (l__law_great : K.lookup f__law_great = some ⟨oc__law_great, od__law_great, .func (PySem.W.fnOf "_law_great" "_law_great" (defArgs st__law_great) (defBody st__law_great) (defScope st__law_great) .none kV__law_great dc__law_great pm__law_great an__law_great cd__law_great ct__law_great), sl__law_great⟩) (c__law_great : PySem.W.codeIn K cd__law_great "_law_great" = true) (k__law_great : PySem.W.keepIn K (.ref f__law_great) = true) (a_common : PySem.W.nsIn K mainGlobals "common" = some (some (.ref f_common))) (l_common : K.lookup f_common = some ⟨oc_common, od_common, .func (PySem.W.fnOf "common" "common" (defArgs st_common) (defBody st_common) (defScope st_common) .none kV_common dc_common pm_common an_common cd_common ct_common), sl_common⟩) (c_common : PySem.W.codeIn K cd_common "common" = true) (k_common : PySem.W.keepIn K (.ref f_common) = true) (a_is_whole : PySem.W.nsIn K mainGlobals "is_whole" = some (some (.ref f_is_whole))) (l_is_whole : K.lookup f_is_whole = some ⟨oc_is_whole, od_is_whole, .func (PySem.W.fnOf "is_whole" "is_whole" (defArgs st_is_whole) (defBody st_is_whole) (defScope st_is_whole) .none kV_is_whole dc_is_whole pm_is_whole an_is_whole cd_is_whole ct_is_whole), sl_is_whole⟩) (c_is_whole : PySem.W.codeIn K cd_is_whole "is_whole" = true) (k_is_whole : PySem.W.keepIn K (.ref f_is_whole) = true) (a_is_row : PySem.W.nsIn K mainGlobals "is_row" = some (some (.ref f_is_row))) (l_is_row : K.lookup f_is_row = some ⟨oc_is_row, od_is_row, .func (PySem.W.fnOf "is_row" "is_row" (defArgs st_is_row) (defBody st_is_row) (defScope st_is_row) .none kV_is_row dc_is_row pm_is_row an_is_row cd_is_row ct_is_row), sl_is_row⟩) (c_is_row : PySem.W.codeIn K cd_is_row "is_row" = true) (k_is_row : PySem.W.keepIn K (.ref f_is_row) = true) (a_is_row_of : PySem.W.nsIn K mainGlobals "is_row_of" = some (some (.ref f_is_row_of))) (l_is_row_of : K.lookup f_is_row_of = some ⟨oc_is_row_of, od_is_row_of, .func (PySem.W.fnOf "is_row_of" "is_row_of" (defArgs st_is_row_of) (defBody st_is_row_of) (defScope st_is_row_of) .none kV_is_row_of dc_is_row_of pm_is_row_of an_is_row_of cd_is_row_of ct_is_row_of), sl_is_row_of⟩) (c_is_row_of : PySem.W.codeIn K cd_is_row_of "is_row_of" = true) (k_is_row_of : PySem.W.keepIn K (.ref f_is_row_of) = true) (a_has_amount_numbers : PySem.W.nsIn K mainGlobals "has_amount_numbers" = some (some (.ref f_has_amount_numbers))) (l_has_amount_numbers : K.lookup f_has_amount_numbers = some ⟨oc_has_amount_numbers, od_has_amount_numbers, .func (PySem.W.fnOf "has_amount_numbers" "has_amount_numbers" (defArgs st_has_amount_numbers) (defBody st_has_amount_numbers) (defScope st_has_amount_numbers) .none kV_has_amount_numbers dc_has_amount_numbers pm_has_amount_numbers an_has_amount_numbers cd_has_amount_numbers ct_has_amount_numbers), sl_has_amount_numbers⟩) (c_has_amount_numbers : PySem.W.codeIn K cd_has_amount_numbers "has_amount_numbers" = true) (k_has_amount_numbers : PySem.W.keepIn K (.ref f_has_amount_numbers) = true) (a_is_amount : PySem.W.nsIn K mainGlobals "is_amount" = some (some (.ref f_is_amount))) (l_is_amount : K.lookup f_is_amount = some ⟨oc_is_amount, od_is_amount, .func (PySem.W.fnOf "is_amount" "is_amount" (defArgs st_is_amount) (defBody st_is_amount) (defScope st_is_amount) .none kV_is_amount dc_is_amount pm_is_amount an_is_amount cd_is_amount ct_is_amount), sl_is_amount⟩) (c_is_amount : PySem.W.codeIn K cd_is_amount "is_amount" = true) (k_is_amount : PySem.W.keepIn K (.ref f_is_amount) = true) (a_is_in_parts : PySem.W.nsIn K mainGlobals "is_in_parts" = some (some (.ref f_is_in_parts))) (l_is_in_parts : K.lookup f_is_in_parts = some ⟨oc_is_in_parts, od_is_in_parts, .func (PySem.W.fnOf "is_in_parts" "is_in_parts" (defArgs st_is_in_parts) (defBody st_is_in_parts) (defScope st_is_in_parts) .none kV_is_in_parts dc_is_in_parts pm_is_in_parts an_is_in_parts cd_is_in_parts ct_is_in_parts), sl_is_in_parts⟩) (c_is_in_parts : PySem.W.codeIn K cd_is_in_parts "is_in_parts" = true) (k_is_in_parts : PySem.W.keepIn K (.ref f_is_in_parts) = true) (a_is_weight : PySem.W.nsIn K mainGlobals "is_weight" = some (some (.ref f_is_weight))) (l_is_weight : K.lookup f_is_weight = some ⟨oc_is_weight, od_is_weight, .func (PySem.W.fnOf "is_weight" "is_weight" (defArgs st_is_weight) (defBody st_is_weight) (defScope st_is_weight) .none kV_is_weight dc_is_weight pm_is_weight an_is_weight cd_is_weight ct_is_weight), sl_is_weight⟩) (c_is_weight : PySem.W.codeIn K cd_is_weight "is_weight" = true) (k_is_weight : PySem.W.keepIn K (.ref f_is_weight) = true) (a__law_is_row : PySem.W.nsIn K mainGlobals "_law_is_row" = some (some (.ref f__law_is_row))) (l__law_is_row : K.lookup f__law_is_row = some ⟨oc__law_is_row, od__law_is_row, .func (PySem.W.fnOf "_law_is_row" "_law_is_row" (defArgs st__law_is_row) (defBody st__law_is_row) (defScope st__law_is_row) .none kV__law_is_row dc__law_is_row pm__law_is_row an__law_is_row cd__law_is_row ct__law_is_row), sl__law_is_row⟩) (c__law_is_row : PySem.W.codeIn K cd__law_is_row "_law_is_row" = true) (k__law_is_row : PySem.W.keepIn K (.ref f__law_is_row) = true) (a__law_is_amount : PySem.W.nsIn K mainGlobals "_law_is_amount" = some (some (.ref f__law_is_amount))) (l__law_is_amount : K.lookup f__law_is_amount = some ⟨oc__law_is_amount, od__law_is_amount, .func (PySem.W.fnOf "_law_is_amount" "_law_is_amount" (defArgs st__law_is_amount) (defBody st__law_is_amount) (defScope st__law_is_amount) .none kV__law_is_amount dc__law_is_amount pm__law_is_amount an__law_is_amount cd__law_is_amount ct__law_is_amount), sl__law_is_amount⟩) (c__law_is_amount : PySem.W.codeIn K cd__law_is_amount "_law_is_amount" = true) (k__law_is_amount : PySem.W.keepIn K (.ref f__law_is_amount) = true) (a__law_is_weight : PySem.W.nsIn K mainGlobals "_law_is_weight" = some (some (.ref f__law_is_weight))) (l__law_is_weight : K.lookup f__law_is_weight = some ⟨oc__law_is_weight, od__law_is_weight, .func (PySem.W.fnOf "_law_is_weight" "_law_is_weight" (defArgs st__law_is_weight) (defBody st__law_is_weight) (defScope st__law_is_weight) .none kV__law_is_weight dc__law_is_weight pm__law_is_weight an__law_is_weight cd__law_is_weight ct__law_is_weight), sl__law_is_weight⟩) (c__law_is_weight : PySem.W.codeIn K cd__law_is_weight "_law_is_weight" = true) (k__law_is_weight : PySem.W.keepIn K (.ref f__law_is_weight) = true) (a__law_right : PySem.W.nsIn K mainGlobals "_law_right" = some (some (.ref f__law_right))) (l__law_right : K.lookup f__law_right = some ⟨oc__law_right, od__law_right, .func (PySem.W.fnOf "_law_right" "_law_right" (defArgs st__law_right) (defBody st__law_right) (defScope st__law_right) .none kV__law_right dc__law_right pm__law_right an__law_right cd__law_right ct__law_right), sl__law_right⟩) (c__law_right : PySem.W.codeIn K cd__law_right "_law_right" = true) (k__law_right : PySem.W.keepIn K (.ref f__law_right) = true) (a__law_lists : PySem.W.nsIn K mainGlobals "_law_lists" = some (some (.ref f__law_lists))) (l__law_lists : K.lookup f__law_lists = some ⟨oc__law_lists, od__law_lists, .func (PySem.W.fnOf "_law_lists" "_law_lists" (defArgs st__law_lists) (defBody st__law_lists) (defScope st__law_lists) .none kV__law_lists dc__law_lists pm__law_lists an__law_lists cd__law_lists ct__law_lists), sl__law_lists⟩) (c__law_lists : PySem.W.codeIn K cd__law_lists "_law_lists" = true) (k__law_lists : PySem.W.keepIn K (.ref f__law_lists) = true) (a_law : PySem.W.nsIn K mainGlobals "law" = some (some (.ref f_law))) (l_law : K.lookup f_law = some ⟨oc_law, od_law, .func (PySem.W.fnOf "law" "law" (defArgs st_law) (defBody st_law) (defScope st_law) .none kV_law dc_law pm_law an_law cd_law ct_law), sl_law⟩) (c_law : PySem.W.codeIn K cd_law "law" = true) (k_law : PySem.W.keepIn K (.ref f_law) = true) : Txt K mg :=
  ⟨(free_cons (PySem.W.mg_none_of X G z_all) (free_cons (PySem.W.mg_none_of X G z_bool) (free_cons (PySem.W.mg_none_of X G z_int) (free_cons (PySem.W.mg_none_of X G z_isinstance) (free_cons (PySem.W.mg_none_of X G z_len) (free_cons (PySem.W.mg_none_of X G z_list) (free_cons (PySem.W.mg_none_of X G z_range) (free_cons (PySem.W.mg_none_of X G z_repr) (free_cons (PySem.W.mg_none_of X G z_tuple) free_nil))))))))), ⟨_, PySem.W.mg_of X G u_MOST_ABOVE⟩, ⟨_, PySem.W.mg_of X G u_BELOW⟩, def_mk X G a__law_stream l__law_stream c__law_stream k__law_stream, def_mk X G a__law_take l__law_take c__law_take k__law_take, def_mk X G a__law_pick l__law_pick c__law_pick k__law_pick, def_mk X G a__law_least l__law_least c__law_least k__law_least, def_mk X G a__law_weight l__law_weight c__law_weight k__law_weight, def_mk X G a__law_bent l__law_bent c__law_bent k__law_bent, def_mk X G a__law_any l__law_any c__law_any k__law_any, def_mk X G a__law_great l__law_great c__law_great k__law_great, def_mk X G a_common l_common c_common k_common, def_mk X G a_is_whole l_is_whole c_is_whole k_is_whole, def_mk X G a_is_row l_is_row c_is_row k_is_row, def_mk X G a_is_row_of l_is_row_of c_is_row_of k_is_row_of, def_mk X G a_has_amount_numbers l_has_amount_numbers c_has_amount_numbers k_has_amount_numbers, def_mk X G a_is_amount l_is_amount c_is_amount k_is_amount, def_mk X G a_is_in_parts l_is_in_parts c_is_in_parts k_is_in_parts, def_mk X G a_is_weight l_is_weight c_is_weight k_is_weight, def_mk X G a__law_is_row l__law_is_row c__law_is_row k__law_is_row, def_mk X G a__law_is_amount l__law_is_amount c__law_is_amount k__law_is_amount, def_mk X G a__law_is_weight l__law_is_weight c__law_is_weight k__law_is_weight, def_mk X G a__law_right l__law_right c__law_right k__law_right, def_mk X G a__law_lists l__law_lists c__law_lists k__law_lists, def_mk X G a_law l_law c_law k_law⟩
end
end Q3
end
end

section
set_option Elab.async false
set_option linter.all false
set_option maxRecDepth 100000
set_option maxHeartbeats 400000
namespace Q3
open PySem PySem.Spec PyProof.Rows L2
def isWholeD : PyData → Bool
  | .int _ => true
  | _ => false
def isRowD : PyData → Bool
  | .list _ => true
  | .tuple _ => true
  | _ => false
theorem e_is_whole (x : PyData) (M : Sto) : F_is_whole [.d x] M = some (.d (.bool (isWholeD x)), M) := by cases x <;> rfl
theorem e_is_row (x : PyData) (M : Sto) : F_is_row [.d x] M = some (.d (.bool (isRowD x)), M) := by cases x <;> rfl
def rowOfD (d : PyData) (n : Int) : Bool := match itemsD d with
  | some ds => ((ds.length : Int) == n)
  | none => false
theorem e_is_row_of (x : PyData) (n : Int) (M : Sto) : F_is_row_of [.d x, .d (.int n)] M = some (.d (.bool (rowOfD x n)), M) := by cases x <;> rfl
end Q3

end

section
set_option Elab.async false
set_option linter.all false
set_option maxRecDepth 100000
set_option maxHeartbeats 400000
namespace Q3
open PySem PySem.Spec PyProof.Rows L2
theorem gcd_step (x y : Int) : Int.gcd y (x % y) = Int.gcd x y := by
  rw [Int.gcd_comm x y]
  have : x % y = x - y * (x / y) := by have := Int.emod_add_mul_ediv x y; omega
  rw [this]
  simp
abbrev I (n : Int) : CD := .d (.int n)
theorem modOk_t {x y : Int} (h : 0 < y) : modOk x y = true := by simp [modOk, h]
theorem common_loop (M : Sto) : ∀ (n : Nat) (x y : Int), 0 ≤ x → 0 ≤ y → y.toNat < n →
    whileN (gTru (fVar 1)) (sPar 0 1 (fCons (fVar 1) (fCons (fOp modI (fVar 0) (fVar 1)) fNil))) n [some (I x), some (I y)] M = some (.nx [some (I (Int.gcd x y)), some (I 0)], M)
  | 0, _, _, _, _, h => by omega
  | n + 1, x, y, hx, hy, h => by
    by_cases e : y = 0
    · subst e
      have : (Int.gcd x 0 : Int) = x := by rw [Int.gcd_zero_right]; omega
      rw [this]
      rfl
    · have hp : 0 < y := by omega
      have ih := common_loop M n y (x % y) hy (Int.emod_nonneg _ e) (by have := Int.emod_lt_of_pos x hp; omega)
      rw [gcd_step] at ih
      rw [← ih]
      have hb : (y != 0) = true := by simp [e]
      simp only [whileN, gTru, fVar, truF, sPar, fCons, fOp, fNil, modI, pI, ifS, modOk_t hp, hb, Option.bind, List.getElem?_cons_succ, List.getElem?_cons_zero, if_true, List.set]
theorem e_common {a b : Int} (M : Sto) (ha : 0 ≤ a) (hb : 0 ≤ b) : F_common [I a, I b] M = some (I (Int.gcd a b), M) := by
  have h : W_common_0 [some (I a), some (I b)] M = _ := while_is (common_loop M (b.toNat + 1) a b ha hb (Nat.lt_succ_self _))
  show ((sSeq W_common_0 _ [some (I a), some (I b)] M).bind _) = _
  unfold sSeq
  rw [h]
  rfl
end Q3

end

section
set_option Elab.async false
set_option linter.all false
set_option maxRecDepth 100000
set_option maxHeartbeats 400000
namespace Q3
open PySem PySem.Spec PyProof.Rows L2
abbrev B (b : Bool) : CD := .d (.bool b)
def numsD (d : PyData) : Bool := match itemsD d with
  | some [.int a, .int b] => decide (0 ≤ a) && decide (1 ≤ b)
  | _ => false
theorem rowOf2 {x : PyData} (h : rowOfD x 2 = true) : ∃ a b, x = .list [a, b] ∨ x = .tuple [a, b] := by
  unfold rowOfD at h
  cases x with
  | list ds =>
    have h : ((ds.length : Int) == 2) = true := h
    rcases ds with _ | ⟨a, _ | ⟨b, _ | ⟨c, r⟩⟩⟩
    · simp at h
    · simp at h
    · exact ⟨a, b, .inl rfl⟩
    · simp at h; omega
  | tuple ds =>
    have h : ((ds.length : Int) == 2) = true := h
    rcases ds with _ | ⟨a, _ | ⟨b, _ | ⟨c, r⟩⟩⟩
    · simp at h
    · simp at h
    · exact ⟨a, b, .inr rfl⟩
    · simp at h; omega
  | _ => simp [itemsD] at h
theorem nums_row {x : PyData} (h : rowOfD x 2 = false) : numsD x = false := by
  unfold numsD
  unfold rowOfD at h
  cases q : itemsD x with
  | none => rfl
  | some ds =>
    rw [q] at h
    rcases ds with _ | ⟨a, _ | ⟨b, _ | ⟨c, r⟩⟩⟩
    · rfl
    · cases a <;> rfl
    · simp at h
    · cases a <;> cases b <;> rfl
theorem ixF0 {a b : PyData} {M : Sto} : ixF (.d (.list [a, b])) (I 0) M = some (.d a, M) := rfl
theorem ixF1 {a b : PyData} {M : Sto} : ixF (.d (.list [a, b])) (I 1) M = some (.d b, M) := rfl
theorem ixT0 {a b : PyData} {M : Sto} : ixF (.d (.tuple [a, b])) (I 0) M = some (.d a, M) := rfl
theorem ixT1 {a b : PyData} {M : Sto} : ixF (.d (.tuple [a, b])) (I 1) M = some (.d b, M) := rfl
theorem and2 {p q : Bool} {M : Sto} : (if p = true then some (B q, M) else some (B false, M)) = some (B (p && q), M) := by cases p <;> rfl
theorem e_has_amount_numbers (x : PyData) (M : Sto) : F_has_amount_numbers [.d x] M = some (B (numsD x), M) := by
  cases h : rowOfD x 2 with
  | false =>
    rw [nums_row h]
    simp only [F_has_amount_numbers, m_has_amount_numbers, fnF, sSeq, sIf, sRet, sRetN, sNext, sAsg, sDrop, hName, hTup, hCons, hNil, hSub, gOr, gAnd, gNot, gB, gTru, truF, fCall, fCons, fNil, fVar, fC, fOp, fUn, fAnd, fOr, fNot, fIf, fChain, asB, fTup, fLst, fNew, allD, fIsi, fIsi2, pI, ifS, addI, subI, mulI, fdivI, modI, powI, ltI, leI, gtI, geI, Option.bind_some, Option.bind_none, Option.map_some, List.getElem?_cons_zero, List.getElem?_cons_succ, List.length_cons, List.length_nil, List.set_cons_zero, List.set_cons_succ, List.map_cons, List.map_nil, List.replicate_zero, List.replicate_succ, List.cons_append, List.nil_append, List.append_nil, if_true, ite_true, ite_false, Nat.reduceAdd, Nat.reduceSub, reduceIte, Bool.not_true, Bool.not_false, Bool.false_eq_true, e_is_row_of, h]
  | true =>
    obtain ⟨a, b, rfl | rfl⟩ := rowOf2 h
    · cases a <;> cases b <;> first | rfl | (rename_i a b; simp only [F_has_amount_numbers, m_has_amount_numbers, fnF, sSeq, sIf, sRet, sRetN, sNext, sAsg, sDrop, hName, hTup, hCons, hNil, hSub, gOr, gAnd, gNot, gB, gTru, truF, fCall, fCons, fNil, fVar, fC, fOp, fUn, fAnd, fOr, fNot, fIf, fChain, asB, fTup, fLst, fNew, allD, fIsi, fIsi2, pI, ifS, addI, subI, mulI, fdivI, modI, powI, ltI, leI, gtI, geI, Option.bind_some, Option.bind_none, Option.map_some, List.getElem?_cons_zero, List.getElem?_cons_succ, List.length_cons, List.length_nil, List.set_cons_zero, List.set_cons_succ, List.map_cons, List.map_nil, List.replicate_zero, List.replicate_succ, List.cons_append, List.nil_append, List.append_nil, if_true, ite_true, ite_false, Nat.reduceAdd, Nat.reduceSub, reduceIte, Bool.not_true, Bool.not_false, Bool.false_eq_true, e_is_row_of, h, e_is_whole, ixF0, ixF1, isWholeD, and2]; rfl)
    · cases a <;> cases b <;> first | rfl | (rename_i a b; simp only [F_has_amount_numbers, m_has_amount_numbers, fnF, sSeq, sIf, sRet, sRetN, sNext, sAsg, sDrop, hName, hTup, hCons, hNil, hSub, gOr, gAnd, gNot, gB, gTru, truF, fCall, fCons, fNil, fVar, fC, fOp, fUn, fAnd, fOr, fNot, fIf, fChain, asB, fTup, fLst, fNew, allD, fIsi, fIsi2, pI, ifS, addI, subI, mulI, fdivI, modI, powI, ltI, leI, gtI, geI, Option.bind_some, Option.bind_none, Option.map_some, List.getElem?_cons_zero, List.getElem?_cons_succ, List.length_cons, List.length_nil, List.set_cons_zero, List.set_cons_succ, List.map_cons, List.map_nil, List.replicate_zero, List.replicate_succ, List.cons_append, List.nil_append, List.append_nil, if_true, ite_true, ite_false, Nat.reduceAdd, Nat.reduceSub, reduceIte, Bool.not_true, Bool.not_false, Bool.false_eq_true, e_is_row_of, h, e_is_whole, ixT0, ixT1, isWholeD, and2]; rfl)
end Q3

end

section
set_option Elab.async false
set_option linter.all false
set_option maxRecDepth 100000
set_option maxHeartbeats 1000000
namespace Q3
open PySem PySem.Spec PyProof.Rows L2
/-! rows of two ints, as a list or as a tuple -/
def P (k : Bool) (a b : Int) : PyData := if k then .list [.int a, .int b] else .tuple [.int a, .int b]
theorem ixP0 {k : Bool} {a b : Int} {M : Sto} : ixF (.d (P k a b)) (I 0) M = some (I a, M) := by cases k <;> rfl
theorem ixP1 {k : Bool} {a b : Int} {M : Sto} : ixF (.d (P k a b)) (I 1) M = some (I b, M) := by cases k <;> rfl
theorem eqII {i j : Int} {M : Sto} : eqX false (I i) (I j) M = some (B (i == j), M) := rfl
theorem neII {i j : Int} {M : Sto} : eqX true (I i) (I j) M = some (B (!(i == j)), M) := rfl
theorem addII {i j : Int} {M : Sto} : addX (I i) (I j) M = some (I (i + j), M) := rfl
theorem numsP {k : Bool} {a b : Int} : numsD (P k a b) = (decide (0 ≤ a) && decide (1 ≤ b)) := by cases k <;> rfl
def amtI (a b : Int) : Bool := decide (0 ≤ a) && decide (1 ≤ b) && (Int.gcd a b == 1)
theorem natB (n m : Nat) : ((n : Int) == (m : Int)) = (n == m) := by
  rw [Bool.eq_iff_iff]; simp; omega
theorem e_is_amount (k : Bool) (a b : Int) (M : Sto) : F_is_amount [.d (P k a b)] M = some (B (amtI a b), M) := by
  cases h : (decide (0 ≤ a) && decide (1 ≤ b)) with
  | false =>
    have e : amtI a b = false := by unfold amtI; rw [h]; rfl
    rw [e]
    simp only [F_is_amount, m_is_amount, fnF, sSeq, sIf, sRet, sRetN, sNext, sAsg, sDrop, hName, hTup, hCons, hNil, hSub, gOr, gAnd, gNot, gB, gTru, truF, fCall, fCons, fNil, fVar, fC, fOp, fUn, fAnd, fOr, fNot, fIf, fChain, asB, fTup, fLst, fNew, allD, fIsi, fIsi2, pI, ifS, addI, subI, mulI, fdivI, modI, powI, ltI, leI, gtI, geI, Option.bind_some, Option.bind_none, Option.map_some, List.getElem?_cons_zero, List.getElem?_cons_succ, List.length_cons, List.length_nil, List.set_cons_zero, List.set_cons_succ, List.map_cons, List.map_nil, List.replicate_zero, List.replicate_succ, List.cons_append, List.nil_append, List.append_nil, if_true, ite_true, ite_false, Nat.reduceAdd, Nat.reduceSub, reduceIte, Bool.not_true, Bool.not_false, Bool.false_eq_true, e_has_amount_numbers, numsP, h]
  | true =>
    have e : amtI a b = (Int.gcd a b == 1) := by unfold amtI; rw [h]; rfl
    rw [e]
    rw [Bool.and_eq_true] at h
    have h1 := of_decide_eq_true h.1
    have h2 := of_decide_eq_true h.2
    simp only [F_is_amount, m_is_amount, fnF, sSeq, sIf, sRet, sRetN, sNext, sAsg, sDrop, hName, hTup, hCons, hNil, hSub, gOr, gAnd, gNot, gB, gTru, truF, fCall, fCons, fNil, fVar, fC, fOp, fUn, fAnd, fOr, fNot, fIf, fChain, asB, fTup, fLst, fNew, allD, fIsi, fIsi2, pI, ifS, addI, subI, mulI, fdivI, modI, powI, ltI, leI, gtI, geI, Option.bind_some, Option.bind_none, Option.map_some, List.getElem?_cons_zero, List.getElem?_cons_succ, List.length_cons, List.length_nil, List.set_cons_zero, List.set_cons_succ, List.map_cons, List.map_nil, List.replicate_zero, List.replicate_succ, List.cons_append, List.nil_append, List.append_nil, if_true, ite_true, ite_false, Nat.reduceAdd, Nat.reduceSub, reduceIte, Bool.not_true, Bool.not_false, Bool.false_eq_true, e_has_amount_numbers, numsP, h.1, h.2, Bool.and_true, ixP0, ixP1, e_common M h1 (Int.le_trans (by decide) h2), eqII]
    rw [show (1 : Int) = ((1 : Nat) : Int) from rfl, natB]
def wgtI (a b : Int) : Bool := decide (0 ≤ a) && decide (1 ≤ b) && (55440 % b == 0) && (Int.gcd a b == 1) && decide (a ≤ 1000000000000)
theorem e_is_in_parts (k : Bool) (a b : Int) (M : Sto) : F_is_in_parts [.d (P k a b)] M = some (B (decide (0 ≤ a) && decide (1 ≤ b) && (55440 % b == 0) && (Int.gcd a b == 1)), M) := by
  cases h : (decide (0 ≤ a) && decide (1 ≤ b)) with
  | false =>
    simp only [F_is_in_parts, m_is_in_parts, fnF, sSeq, sIf, sRet, sRetN, sNext, sAsg, sDrop, hName, hTup, hCons, hNil, hSub, gOr, gAnd, gNot, gB, gTru, truF, fCall, fCons, fNil, fVar, fC, fOp, fUn, fAnd, fOr, fNot, fIf, fChain, asB, fTup, fLst, fNew, allD, fIsi, fIsi2, pI, ifS, addI, subI, mulI, fdivI, modI, powI, ltI, leI, gtI, geI, Option.bind_some, Option.bind_none, Option.map_some, List.getElem?_cons_zero, List.getElem?_cons_succ, List.length_cons, List.length_nil, List.set_cons_zero, List.set_cons_succ, List.map_cons, List.map_nil, List.replicate_zero, List.replicate_succ, List.cons_append, List.nil_append, List.append_nil, if_true, ite_true, ite_false, Nat.reduceAdd, Nat.reduceSub, reduceIte, Bool.not_true, Bool.not_false, Bool.false_eq_true, e_has_amount_numbers, numsP, h, Bool.false_and]
  | true =>
    have hh := h
    rw [Bool.and_eq_true] at h
    have h1 := of_decide_eq_true h.1
    have h2 := of_decide_eq_true h.2
    have hm : modOk 55440 b = true := modOk_t (by omega)
    cases h3 : (55440 % b == 0) with
    | false => simp only [F_is_in_parts, m_is_in_parts, fnF, sSeq, sIf, sRet, sRetN, sNext, sAsg, sDrop, hName, hTup, hCons, hNil, hSub, gOr, gAnd, gNot, gB, gTru, truF, fCall, fCons, fNil, fVar, fC, fOp, fUn, fAnd, fOr, fNot, fIf, fChain, asB, fTup, fLst, fNew, allD, fIsi, fIsi2, pI, ifS, addI, subI, mulI, fdivI, modI, powI, ltI, leI, gtI, geI, Option.bind_some, Option.bind_none, Option.map_some, List.getElem?_cons_zero, List.getElem?_cons_succ, List.length_cons, List.length_nil, List.set_cons_zero, List.set_cons_succ, List.map_cons, List.map_nil, List.replicate_zero, List.replicate_succ, List.cons_append, List.nil_append, List.append_nil, if_true, ite_true, ite_false, Nat.reduceAdd, Nat.reduceSub, reduceIte, Bool.not_true, Bool.not_false, Bool.false_eq_true, e_has_amount_numbers, numsP, hh, ixP0, ixP1, hm, eqII, h3, Bool.true_and, Bool.false_and]
    | true =>
      simp only [F_is_in_parts, m_is_in_parts, fnF, sSeq, sIf, sRet, sRetN, sNext, sAsg, sDrop, hName, hTup, hCons, hNil, hSub, gOr, gAnd, gNot, gB, gTru, truF, fCall, fCons, fNil, fVar, fC, fOp, fUn, fAnd, fOr, fNot, fIf, fChain, asB, fTup, fLst, fNew, allD, fIsi, fIsi2, pI, ifS, addI, subI, mulI, fdivI, modI, powI, ltI, leI, gtI, geI, Option.bind_some, Option.bind_none, Option.map_some, List.getElem?_cons_zero, List.getElem?_cons_succ, List.length_cons, List.length_nil, List.set_cons_zero, List.set_cons_succ, List.map_cons, List.map_nil, List.replicate_zero, List.replicate_succ, List.cons_append, List.nil_append, List.append_nil, if_true, ite_true, ite_false, Nat.reduceAdd, Nat.reduceSub, reduceIte, Bool.not_true, Bool.not_false, Bool.false_eq_true, e_has_amount_numbers, numsP, hh, ixP0, ixP1, hm, eqII, h3, Bool.true_and, e_common M h1 (Int.le_trans (by decide) h2)]
      rw [show (1 : Int) = ((1 : Nat) : Int) from rfl, natB]
theorem e_is_weight (k : Bool) (a b : Int) (M : Sto) : F_is_weight [.d (P k a b)] M = some (B (wgtI a b), M) := by
  cases h : (decide (0 ≤ a) && decide (1 ≤ b) && (55440 % b == 0) && (Int.gcd a b == 1)) with
  | false =>
    have e : wgtI a b = false := by unfold wgtI; rw [h]; rfl
    rw [e]
    simp only [F_is_weight, m_is_weight, fnF, sSeq, sIf, sRet, sRetN, sNext, sAsg, sDrop, hName, hTup, hCons, hNil, hSub, gOr, gAnd, gNot, gB, gTru, truF, fCall, fCons, fNil, fVar, fC, fOp, fUn, fAnd, fOr, fNot, fIf, fChain, asB, fTup, fLst, fNew, allD, fIsi, fIsi2, pI, ifS, addI, subI, mulI, fdivI, modI, powI, ltI, leI, gtI, geI, Option.bind_some, Option.bind_none, Option.map_some, List.getElem?_cons_zero, List.getElem?_cons_succ, List.length_cons, List.length_nil, List.set_cons_zero, List.set_cons_succ, List.map_cons, List.map_nil, List.replicate_zero, List.replicate_succ, List.cons_append, List.nil_append, List.append_nil, if_true, ite_true, ite_false, Nat.reduceAdd, Nat.reduceSub, reduceIte, Bool.not_true, Bool.not_false, Bool.false_eq_true, e_is_in_parts, h]
  | true =>
    have e : wgtI a b = decide (a ≤ 1000000000000) := by unfold wgtI; rw [h]; rfl
    rw [e]
    simp only [F_is_weight, m_is_weight, fnF, sSeq, sIf, sRet, sRetN, sNext, sAsg, sDrop, hName, hTup, hCons, hNil, hSub, gOr, gAnd, gNot, gB, gTru, truF, fCall, fCons, fNil, fVar, fC, fOp, fUn, fAnd, fOr, fNot, fIf, fChain, asB, fTup, fLst, fNew, allD, fIsi, fIsi2, pI, ifS, addI, subI, mulI, fdivI, modI, powI, ltI, leI, gtI, geI, Option.bind_some, Option.bind_none, Option.map_some, List.getElem?_cons_zero, List.getElem?_cons_succ, List.length_cons, List.length_nil, List.set_cons_zero, List.set_cons_succ, List.map_cons, List.map_nil, List.replicate_zero, List.replicate_succ, List.cons_append, List.nil_append, List.append_nil, if_true, ite_true, ite_false, Nat.reduceAdd, Nat.reduceSub, reduceIte, Bool.not_true, Bool.not_false, Bool.false_eq_true, e_is_in_parts, h, ixP0]
/-! the law's own -/
theorem least_loop (M : Sto) (a b : Int) : ∀ (n : Nat) (x y : Int), 0 ≤ x → 0 ≤ y → y.toNat < n →
    whileN (gB (fOp gtI (fVar 3) (fC (.int 0)))) (sPar 2 3 (fCons (fVar 3) (fCons (fOp modI (fVar 2) (fVar 3)) fNil))) n [some (I a), some (I b), some (I x), some (I y)] M = some (.nx [some (I a), some (I b), some (I (Int.gcd x y)), some (I 0)], M)
  | 0, _, _, _, _, h => by omega
  | n + 1, x, y, hx, hy, h => by
    by_cases e : y = 0
    · subst e
      have : (Int.gcd x 0 : Int) = x := by rw [Int.gcd_zero_right]; omega
      rw [this]
      rfl
    · have hp : 0 < y := by omega
      have ih := least_loop M a b n y (x % y) hy (Int.emod_nonneg _ e) (by have := Int.emod_lt_of_pos x hp; omega)
      rw [gcd_step] at ih
      rw [← ih]
      have hb : decide (0 < y) = true := decide_eq_true hp
      simp only [whileN, sPar, fnF, sSeq, sIf, sRet, sRetN, sNext, sAsg, sDrop, hName, hTup, hCons, hNil, hSub, gOr, gAnd, gNot, gB, gTru, truF, fCall, fCons, fNil, fVar, fC, fOp, fUn, fAnd, fOr, fNot, fIf, fChain, asB, fTup, fLst, fNew, allD, fIsi, fIsi2, pI, ifS, addI, subI, mulI, fdivI, modI, powI, ltI, leI, gtI, geI, Option.bind_some, Option.bind_none, Option.map_some, List.getElem?_cons_zero, List.getElem?_cons_succ, List.length_cons, List.length_nil, List.set_cons_zero, List.set_cons_succ, List.map_cons, List.map_nil, List.replicate_zero, List.replicate_succ, List.cons_append, List.nil_append, List.append_nil, if_true, ite_true, ite_false, Nat.reduceAdd, Nat.reduceSub, reduceIte, Bool.not_true, Bool.not_false, Bool.false_eq_true, modOk_t hp, hb]
theorem gcd_pos {a b : Int} (h : 1 ≤ b) : 1 ≤ (Int.gcd a b : Int) := by
  have : Int.gcd a b ≠ 0 := fun z => by have := (Int.gcd_eq_zero_iff.mp z).2; omega
  omega
theorem gcd_le {a b : Int} (h : 1 ≤ b) : (Int.gcd a b : Int) ≤ b := Int.le_of_dvd (by omega) (Int.gcd_dvd_right a b)
theorem wsm {y : Int} (h : 0 ≤ y) (h2 : y < 2 ^ 200) : y.natAbs < wideN := by
  have h1 : y.natAbs < 2 ^ 200 := by omega
  exact Nat.lt_of_lt_of_le h1 (Nat.pow_le_pow_right (by decide) (by decide))
theorem divOk_t {x y : Int} (h : 0 < y) (h2 : y.natAbs < wideN) : divOk x y = true := by simp [divOk, h, h2]
theorem e_least {a b : Int} (M : Sto) (ha : 0 ≤ a) (hb : 1 ≤ b) (hw : b.natAbs < wideN) : F__law_least [I a, I b] M = some (.d (.tuple [.int (a / (Int.gcd a b : Int)), .int (b / (Int.gcd a b : Int))]), M) := by
  have h : W__law_least_0 [some (I a), some (I b), some (I a), some (I b)] M = _ := while_is (least_loop M a b (b.toNat + 1) a b ha (by omega) (Nat.lt_succ_self _))
  have g1 := gcd_pos (a := a) hb
  have g2 := gcd_le (a := a) hb
  have d1 : ∀ x, divOk x (Int.gcd a b : Int) = true := fun x => divOk_t (by omega) (Nat.lt_of_le_of_lt (by omega) hw)
  have sz : (2 : Nat) ≤ sizeLine := by decide
  simp only [F__law_least, m__law_least, fnF, sSeq, sIf, sRet, sRetN, sNext, sAsg, sDrop, hName, hTup, hCons, hNil, hSub, gOr, gAnd, gNot, gB, gTru, truF, fCall, fCons, fNil, fVar, fC, fOp, fUn, fAnd, fOr, fNot, fIf, fChain, asB, fTup, fLst, fNew, allD, fIsi, fIsi2, pI, ifS, addI, subI, mulI, fdivI, modI, powI, ltI, leI, gtI, geI, Option.bind_some, Option.bind_none, Option.map_some, List.getElem?_cons_zero, List.getElem?_cons_succ, List.length_cons, List.length_nil, List.set_cons_zero, List.set_cons_succ, List.map_cons, List.map_nil, List.replicate_zero, List.replicate_succ, List.cons_append, List.nil_append, List.append_nil, if_true, ite_true, ite_false, Nat.reduceAdd, Nat.reduceSub, reduceIte, Bool.not_true, Bool.not_false, Bool.false_eq_true, h, d1, sz]
theorem e_law_is_row (k : Bool) (a b : Int) (M : Sto) : F__law_is_row [.d (P k a b)] M = some (B true, M) := by cases k <;> rfl
end Q3

end

section
set_option Elab.async false
set_option linter.all false
set_option maxRecDepth 100000
set_option maxHeartbeats 1000000
namespace Q3
open PySem PySem.Spec PyProof.Rows L2
theorem e_C_amount (k : Bool) (a b : Int) (M : Sto) : C__law_is_amount_0 [some (.d (P k a b))] M = some (.d (.list [.bool true, .bool true]), M) := by cases k <;> rfl
theorem e_lenP (k : Bool) (a b : Int) (M : Sto) : lenF [.d (P k a b)] M = some (I 2, M) := by cases k <;> rfl
theorem e_all2 (M : Sto) : allF [.d (.list [.bool true, .bool true])] M = some (B true, M) := rfl
theorem eqTT {a b c d : Int} {M : Sto} : eqX false (.d (.tuple [.int a, .int b])) (.d (.tuple [.int c, .int d])) M = some (B (a == c && (b == d && true)), M) := rfl
theorem least_is {a b : Int} (ha : 0 ≤ a) (hb : 1 ≤ b) : ((a / (Int.gcd a b : Int) == a) && ((b / (Int.gcd a b : Int) == b) && true)) = (Int.gcd a b == 1) := by
  have g1 := gcd_pos (a := a) hb
  by_cases h : Int.gcd a b = 1
  · rw [h]; simp
  · have hb2 : b / (Int.gcd a b : Int) < b := Int.ediv_lt_self_of_pos_of_ne_one (by omega) (by omega)
    have e1 : (b / (Int.gcd a b : Int) == b) = false := by rw [beq_eq_false_iff_ne]; omega
    have e2 : (Int.gcd a b == 1) = false := by rw [beq_eq_false_iff_ne]; exact h
    rw [e1, e2]
    simp
theorem e_law_is_amount (k : Bool) (a b : Int) (M : Sto) (hw : b.natAbs < wideN) : F__law_is_amount [.d (P k a b)] M = some (B (amtI a b), M) := by
  have h2 : ((2 : Int) == 2) = true := rfl
  by_cases ha : 0 ≤ a
  · by_cases hb : 1 ≤ b
    · have e : amtI a b = (Int.gcd a b == 1) := by unfold amtI; rw [decide_eq_true ha, decide_eq_true hb]; rfl
      have n1 : decide (a < 0) = false := decide_eq_false (by omega)
      have n2 : decide (b < 1) = false := decide_eq_false (by omega)
      have sz : (2 : Nat) ≤ sizeLine := by decide
      rw [e, ← least_is ha hb]
      simp only [F__law_is_amount, m__law_is_amount, fnF, sSeq, sIf, sRet, sRetN, sNext, sAsg, sDrop, hName, hTup, hCons, hNil, hSub, gOr, gAnd, gNot, gB, gTru, truF, fCall, fCons, fNil, fVar, fC, fOp, fUn, fAnd, fOr, fNot, fIf, fChain, asB, fTup, fLst, fNew, allD, fIsi, fIsi2, pI, ifS, addI, subI, mulI, fdivI, modI, powI, ltI, leI, gtI, geI, Option.bind_some, Option.bind_none, Option.map_some, List.getElem?_cons_zero, List.getElem?_cons_succ, List.length_cons, List.length_nil, List.set_cons_zero, List.set_cons_succ, List.map_cons, List.map_nil, List.replicate_zero, List.replicate_succ, List.cons_append, List.nil_append, List.append_nil, if_true, ite_true, ite_false, Nat.reduceAdd, Nat.reduceSub, reduceIte, Bool.not_true, Bool.not_false, Bool.false_eq_true, e_law_is_row, e_lenP, neII, h2, e_C_amount, e_all2, ixP0, ixP1, n1, n2, e_least M ha hb hw, sz, eqTT]
    · have e : amtI a b = false := by unfold amtI; rw [decide_eq_false hb]; simp
      have n2 : decide (b < 1) = true := decide_eq_true (by omega)
      have n1 : decide (a < 0) = false := decide_eq_false (by omega)
      rw [e]
      simp only [F__law_is_amount, m__law_is_amount, fnF, sSeq, sIf, sRet, sRetN, sNext, sAsg, sDrop, hName, hTup, hCons, hNil, hSub, gOr, gAnd, gNot, gB, gTru, truF, fCall, fCons, fNil, fVar, fC, fOp, fUn, fAnd, fOr, fNot, fIf, fChain, asB, fTup, fLst, fNew, allD, fIsi, fIsi2, pI, ifS, addI, subI, mulI, fdivI, modI, powI, ltI, leI, gtI, geI, Option.bind_some, Option.bind_none, Option.map_some, List.getElem?_cons_zero, List.getElem?_cons_succ, List.length_cons, List.length_nil, List.set_cons_zero, List.set_cons_succ, List.map_cons, List.map_nil, List.replicate_zero, List.replicate_succ, List.cons_append, List.nil_append, List.append_nil, if_true, ite_true, ite_false, Nat.reduceAdd, Nat.reduceSub, reduceIte, Bool.not_true, Bool.not_false, Bool.false_eq_true, e_law_is_row, e_lenP, neII, h2, e_C_amount, e_all2, ixP0, ixP1, n1, n2]
  · have e : amtI a b = false := by unfold amtI; rw [decide_eq_false ha]; simp
    have n1 : decide (a < 0) = true := decide_eq_true (by omega)
    rw [e]
    simp only [F__law_is_amount, m__law_is_amount, fnF, sSeq, sIf, sRet, sRetN, sNext, sAsg, sDrop, hName, hTup, hCons, hNil, hSub, gOr, gAnd, gNot, gB, gTru, truF, fCall, fCons, fNil, fVar, fC, fOp, fUn, fAnd, fOr, fNot, fIf, fChain, asB, fTup, fLst, fNew, allD, fIsi, fIsi2, pI, ifS, addI, subI, mulI, fdivI, modI, powI, ltI, leI, gtI, geI, Option.bind_some, Option.bind_none, Option.map_some, List.getElem?_cons_zero, List.getElem?_cons_succ, List.length_cons, List.length_nil, List.set_cons_zero, List.set_cons_succ, List.map_cons, List.map_nil, List.replicate_zero, List.replicate_succ, List.cons_append, List.nil_append, List.append_nil, if_true, ite_true, ite_false, Nat.reduceAdd, Nat.reduceSub, reduceIte, Bool.not_true, Bool.not_false, Bool.false_eq_true, e_law_is_row, e_lenP, neII, h2, e_C_amount, e_all2, ixP0, ixP1, n1]
theorem wgt_of {a b : Int} : wgtI a b = (amtI a b && (decide (a ≤ 10 ^ (12 : Int).toNat) && (55440 % b == 0))) := by
  unfold wgtI amtI
  show _ = (_ && (decide (a ≤ 1000000000000) && _))
  cases decide (0 ≤ a) <;> cases decide (1 ≤ b) <;> cases (55440 % b == 0) <;> cases (Int.gcd a b == 1) <;> cases decide (a ≤ 1000000000000) <;> rfl
theorem e_law_is_weight (k : Bool) (a b : Int) (M : Sto) (hw : b.natAbs < wideN) : F__law_is_weight [.d (P k a b)] M = some (B (wgtI a b), M) := by
  have hp : powOk 10 12 = true := by decide
  rw [wgt_of]
  cases h : amtI a b with
  | false => simp only [F__law_is_weight, m__law_is_weight, fnF, sSeq, sIf, sRet, sRetN, sNext, sAsg, sDrop, hName, hTup, hCons, hNil, hSub, gOr, gAnd, gNot, gB, gTru, truF, fCall, fCons, fNil, fVar, fC, fOp, fUn, fAnd, fOr, fNot, fIf, fChain, asB, fTup, fLst, fNew, allD, fIsi, fIsi2, pI, ifS, addI, subI, mulI, fdivI, modI, powI, ltI, leI, gtI, geI, Option.bind_some, Option.bind_none, Option.map_some, List.getElem?_cons_zero, List.getElem?_cons_succ, List.length_cons, List.length_nil, List.set_cons_zero, List.set_cons_succ, List.map_cons, List.map_nil, List.replicate_zero, List.replicate_succ, List.cons_append, List.nil_append, List.append_nil, if_true, ite_true, ite_false, Nat.reduceAdd, Nat.reduceSub, reduceIte, Bool.not_true, Bool.not_false, Bool.false_eq_true, e_law_is_amount k a b M hw, h, Bool.false_and]
  | true =>
    have hb : 0 < b := by
      unfold amtI at h
      simp only [Bool.and_eq_true, decide_eq_true_eq] at h
      omega
    cases h2 : decide (a ≤ 10 ^ (12 : Int).toNat) with
    | false => simp only [F__law_is_weight, m__law_is_weight, fnF, sSeq, sIf, sRet, sRetN, sNext, sAsg, sDrop, hName, hTup, hCons, hNil, hSub, gOr, gAnd, gNot, gB, gTru, truF, fCall, fCons, fNil, fVar, fC, fOp, fUn, fAnd, fOr, fNot, fIf, fChain, asB, fTup, fLst, fNew, allD, fIsi, fIsi2, pI, ifS, addI, subI, mulI, fdivI, modI, powI, ltI, leI, gtI, geI, Option.bind_some, Option.bind_none, Option.map_some, List.getElem?_cons_zero, List.getElem?_cons_succ, List.length_cons, List.length_nil, List.set_cons_zero, List.set_cons_succ, List.map_cons, List.map_nil, List.replicate_zero, List.replicate_succ, List.cons_append, List.nil_append, List.append_nil, if_true, ite_true, ite_false, Nat.reduceAdd, Nat.reduceSub, reduceIte, Bool.not_true, Bool.not_false, Bool.false_eq_true, e_law_is_amount k a b M hw, h, Bool.true_and, Bool.false_and, ixP0, hp, h2]
    | true => simp only [F__law_is_weight, m__law_is_weight, fnF, sSeq, sIf, sRet, sRetN, sNext, sAsg, sDrop, hName, hTup, hCons, hNil, hSub, gOr, gAnd, gNot, gB, gTru, truF, fCall, fCons, fNil, fVar, fC, fOp, fUn, fAnd, fOr, fNot, fIf, fChain, asB, fTup, fLst, fNew, allD, fIsi, fIsi2, pI, ifS, addI, subI, mulI, fdivI, modI, powI, ltI, leI, gtI, geI, Option.bind_some, Option.bind_none, Option.map_some, List.getElem?_cons_zero, List.getElem?_cons_succ, List.length_cons, List.length_nil, List.set_cons_zero, List.set_cons_succ, List.map_cons, List.map_nil, List.replicate_zero, List.replicate_succ, List.cons_append, List.nil_append, List.append_nil, if_true, ite_true, ite_false, Nat.reduceAdd, Nat.reduceSub, reduceIte, Bool.not_true, Bool.not_false, Bool.false_eq_true, e_law_is_amount k a b M hw, h, Bool.true_and, ixP0, ixP1, hp, h2, modOk_t hb, eqII]
end Q3

end

section
set_option Elab.async false
set_option linter.all false
set_option maxRecDepth 100000
set_option maxHeartbeats 1000000
namespace Q3
open PySem PySem.Spec PyProof.Rows L2
/-! the stream -/
def Stm (M : Sto) (i : Nat) : Prop := ∃ a b : Int, M[i]? = some (.lst [I a, I b]) ∧ 0 ≤ a ∧ 0 ≤ b ∧ b < 2 ^ 40
def Nxt (i : Nat) (M M' : Sto) : Prop := ∃ a b : Int, M' = M.set i (.lst [I a, I b]) ∧ 0 ≤ a ∧ 0 ≤ b ∧ b < 2 ^ 40
theorem Stm.lt {M : Sto} {i : Nat} (h : Stm M i) : i < M.length := by
  obtain ⟨a, b, h, _⟩ := h
  exact (List.getElem?_eq_some_iff.mp h).1
theorem Nxt.stm {M M' : Sto} {i : Nat} (n : Nxt i M M') (h : Stm M i) : Stm M' i := by
  obtain ⟨a, b, rfl, r⟩ := n
  exact ⟨a, b, by rw [List.getElem?_set_self h.lt], r⟩
theorem Nxt.trans {M M1 M2 : Sto} {i : Nat} (n : Nxt i M M1) (m : Nxt i M1 M2) : Nxt i M M2 := by
  obtain ⟨a, b, rfl, _⟩ := n
  obtain ⟨c, d, rfl, r⟩ := m
  exact ⟨c, d, by rw [List.set_set], r⟩
theorem ixC0 {i : Nat} {x y : CD} {M : Sto} (h : M[i]? = some (.lst [x, y])) : ixF (.c i) (I 0) M = some (x, M) := by
  unfold ixF; dsimp only; rw [h]; rfl
theorem ixC1 {i : Nat} {x y : CD} {M : Sto} (h : M[i]? = some (.lst [x, y])) : ixF (.c i) (I 1) M = some (y, M) := by
  unfold ixF; dsimp only; rw [h]; rfl
theorem setC0 {i : Nat} {x y z : CD} {M : Sto} (h : M[i]? = some (.lst [x, y])) : setF (.c i) (I 0) z M = some (M.set i (.lst [z, y])) := by
  unfold setF; dsimp only; rw [h]; rfl
theorem setC1 {i : Nat} {x y z : CD} {M : Sto} (h : M[i]? = some (.lst [x, y])) : setF (.c i) (I 1) z M = some (M.set i (.lst [x, z])) := by
  unfold setF; dsimp only; rw [h]; rfl
theorem mulOk_r {x y : Int} (h : y.natAbs < 2 ^ 64) : mulOk x y = true := by simp only [mulOk, decide_eq_true h, Bool.or_true, Bool.true_or]
theorem mulOk_l {x y : Int} (h : x.natAbs < 2 ^ 64) : mulOk x y = true := by simp only [mulOk, decide_eq_true h, Bool.true_or]
theorem e_take {M : Sto} {i : Nat} {m : Int} (h : Stm M i) (m0 : 0 < m) (m1 : m < 2 ^ 200) : ∃ r M', F__law_take [.c i, I m] M = some (I r, M') ∧ 0 ≤ r ∧ r < m ∧ Nxt i M M' := by
  obtain ⟨a, b, hM, a0, b0, b1⟩ := h
  have lt : i < M.length := (List.getElem?_eq_some_iff.mp hM).1
  cases e : (a == 0) with
  | true =>
    have q0 := Int.emod_nonneg (b * 48271 + 12345) (b := 2147483647) (by decide)
    have q1 := Int.emod_lt_of_pos (b * 48271 + 12345) (b := 2147483647) (by decide)
    have o1 : mulOk b 48271 = true := mulOk_r (by decide)
    have o2 : modOk (b * 48271 + 12345) 2147483647 = true := modOk_t (by decide)
    obtain ⟨c, hc⟩ : ∃ c, (b * 48271 + 12345) % 2147483647 = c := ⟨_, rfl⟩
    rw [hc] at q0 q1
    have hM1 : (M.set i (.lst [I a, I c]))[i]? = some (.lst [I a, I c]) := by rw [List.getElem?_set_self lt]
    have o3 : mulOk c c = true := mulOk_r (by omega)
    have o4 : modOk (c * c) 2147483629 = true := modOk_t (by decide)
    have o5 : modOk (c * c % 2147483629) m = true := modOk_t m0
    refine ⟨c * c % 2147483629 % m, M.set i (.lst [I a, I c]), ?_, Int.emod_nonneg _ (by omega), Int.emod_lt_of_pos _ m0, a, c, rfl, a0, q0, by omega⟩
    simp only [F__law_take, m__law_take, fnF, sSeq, sIf, sRet, sRetN, sNext, sAsg, sDrop, hName, hTup, hCons, hNil, hSub, gOr, gAnd, gNot, gB, gTru, truF, fCall, fCons, fNil, fVar, fC, fOp, fUn, fAnd, fOr, fNot, fIf, fChain, asB, fTup, fLst, fNew, allD, fIsi, fIsi2, pI, ifS, addI, subI, mulI, fdivI, modI, powI, ltI, leI, gtI, geI, Option.bind_some, Option.bind_none, Option.map_some, List.getElem?_cons_zero, List.getElem?_cons_succ, List.length_cons, List.length_nil, List.set_cons_zero, List.set_cons_succ, List.map_cons, List.map_nil, List.replicate_zero, List.replicate_succ, List.cons_append, List.nil_append, List.append_nil, if_true, ite_true, ite_false, Nat.reduceAdd, Nat.reduceSub, reduceIte, Bool.not_true, Bool.not_false, Bool.false_eq_true, ixC0 hM, ixC1 hM, eqII, addII, e, o1, o2, hc, setC1 hM, ixC1 hM1, o3, o4, o5]
  | false =>
    have o1 : modOk a m = true := modOk_t m0
    have o2 : divOk a m = true := divOk_t m0 (wsm (by omega) m1)
    refine ⟨a % m, M.set i (.lst [I (a / m), I b]), ?_, Int.emod_nonneg _ (by omega), Int.emod_lt_of_pos _ m0, a / m, b, rfl, Int.ediv_nonneg a0 (by omega), b0, b1⟩
    simp only [F__law_take, m__law_take, fnF, sSeq, sIf, sRet, sRetN, sNext, sAsg, sDrop, hName, hTup, hCons, hNil, hSub, gOr, gAnd, gNot, gB, gTru, truF, fCall, fCons, fNil, fVar, fC, fOp, fUn, fAnd, fOr, fNot, fIf, fChain, asB, fTup, fLst, fNew, allD, fIsi, fIsi2, pI, ifS, addI, subI, mulI, fdivI, modI, powI, ltI, leI, gtI, geI, Option.bind_some, Option.bind_none, Option.map_some, List.getElem?_cons_zero, List.getElem?_cons_succ, List.length_cons, List.length_nil, List.set_cons_zero, List.set_cons_succ, List.map_cons, List.map_nil, List.replicate_zero, List.replicate_succ, List.cons_append, List.nil_append, List.append_nil, if_true, ite_true, ite_false, Nat.reduceAdd, Nat.reduceSub, reduceIte, Bool.not_true, Bool.not_false, Bool.false_eq_true, ixC0 hM, eqII, e, o1, o2, setC0 hM]
theorem ixL {ds : List PyData} {j : Nat} {d : PyData} {M : Sto} (h : ds[j]? = some d) : ixF (.d (.list ds)) (I j) M = some (.d d, M) := by
  have hlt : j < ds.length := (List.getElem?_eq_some_iff.mp h).1
  have e : atI ds (j : Int) = some d := atI_nat h
  unfold ixF
  dsimp only
  show (some ds).bind _ = _
  rw [Option.bind_some, e]
  rfl
theorem e_pick {M : Sto} {i : Nat} {ds : List PyData} (h : Stm M i) (h0 : 0 < ds.length) (h1 : ds.length < 1000) : ∃ d M', F__law_pick [.c i, .d (.list ds)] M = some (.d d, M') ∧ d ∈ ds ∧ Nxt i M M' := by
  obtain ⟨r, M', e, r0, r1, n⟩ := e_take (m := (ds.length : Int)) h (by omega) (by omega)
  have hlt : r.toNat < ds.length := by omega
  have hd : ds[r.toNat]? = some ds[r.toNat] := List.getElem?_eq_getElem hlt
  have hr : (r.toNat : Int) = r := Int.toNat_of_nonneg r0
  have hx := ixL (M := M') hd
  rw [hr] at hx
  have hl : lenF [.d (.list ds)] M = some (I ds.length, M) := rfl
  refine ⟨ds[r.toNat], M', ?_, List.getElem_mem hlt, n⟩
  simp only [F__law_pick, m__law_pick, fnF, sSeq, sIf, sRet, sRetN, sNext, sAsg, sDrop, hName, hTup, hCons, hNil, hSub, gOr, gAnd, gNot, gB, gTru, truF, fCall, fCons, fNil, fVar, fC, fOp, fUn, fAnd, fOr, fNot, fIf, fChain, asB, fTup, fLst, fNew, allD, fIsi, fIsi2, pI, ifS, addI, subI, mulI, fdivI, modI, powI, ltI, leI, gtI, geI, Option.bind_some, Option.bind_none, Option.map_some, List.getElem?_cons_zero, List.getElem?_cons_succ, List.length_cons, List.length_nil, List.set_cons_zero, List.set_cons_succ, List.map_cons, List.map_nil, List.replicate_zero, List.replicate_succ, List.cons_append, List.nil_append, List.append_nil, if_true, ite_true, ite_false, Nat.reduceAdd, Nat.reduceSub, reduceIte, Bool.not_true, Bool.not_false, Bool.false_eq_true, hl, e, hx]
end Q3

end

section
set_option Elab.async false
set_option linter.all false
set_option maxRecDepth 100000
set_option maxHeartbeats 2000000
namespace Q3
open PySem PySem.Spec PyProof.Rows L2
abbrev T2 (a b : Int) : CD := .d (.tuple [.int a, .int b])
theorem wgt_least {a b : Int} (h0 : 0 ≤ a) (h1 : a ≤ 1000000000000) (h2 : 1 ≤ b) (h3 : b ∣ 55440) : wgtI (a / (Int.gcd a b : Int)) (b / (Int.gcd a b : Int)) = true := by
  have g1 := gcd_pos (a := a) h2
  have gd : ((Int.gcd a b : Int)) ∣ b := Int.gcd_dvd_right a b
  have e1 : 0 ≤ a / (Int.gcd a b : Int) := Int.ediv_nonneg h0 (by omega)
  have e2 : a / (Int.gcd a b : Int) ≤ 1000000000000 := Int.le_trans (Int.ediv_le_self _ h0) h1
  have e3 : 0 < b / (Int.gcd a b : Int) := Int.ediv_pos_of_pos_of_dvd (by omega) (by omega) gd
  have e4 : 55440 % (b / (Int.gcd a b : Int)) = 0 := Int.emod_eq_zero_of_dvd (Int.dvd_trans (Int.ediv_dvd_of_dvd gd) h3)
  have e5 : Int.gcd (a / (Int.gcd a b : Int)) (b / (Int.gcd a b : Int)) = 1 := Int.gcd_ediv_gcd_ediv_gcd (by omega)
  unfold wgtI
  rw [e4, e5, decide_eq_true e1, decide_eq_true (show 1 ≤ b / (Int.gcd a b : Int) by omega), decide_eq_true e2]
  rfl
theorem wgt_b {a b : Int} (h : wgtI a b = true) : 0 ≤ a ∧ a ≤ 1000000000000 ∧ 1 ≤ b ∧ b ≤ 55440 := by
  unfold wgtI at h
  simp only [Bool.and_eq_true, decide_eq_true_eq, beq_iff_eq] at h
  obtain ⟨⟨⟨⟨h1, h2⟩, h3⟩, _⟩, h5⟩ := h
  exact ⟨h1, h5, h2, Int.le_of_dvd (by decide) (Int.dvd_of_emod_eq_zero h3)⟩
def six : List PyData := [.tuple [.int 1, .int 1], .tuple [.int 1, .int 1], .tuple [.int 2, .int 1], .tuple [.int 1, .int 2], .tuple [.int 3, .int 4], .tuple [.int 0, .int 1]]
def belows : List PyData := [.int 1, .int 2, .int 3, .int 5, .int 7, .int 8, .int 9, .int 11, .int 12, .int 16, .int 35, .int 99, .int 720, .int 5040, .int 27720, .int 55440]
theorem below_of {d : PyData} (h : d ∈ belows) : ∃ n : Int, d = .int n ∧ 1 ≤ n ∧ n ∣ 55440 ∧ n ≤ 55440 := by
  unfold belows at h
  simp only [List.mem_cons, List.not_mem_nil, or_false] at h
  rcases h with rfl | rfl | rfl | rfl | rfl | rfl | rfl | rfl | rfl | rfl | rfl | rfl | rfl | rfl | rfl | rfl <;> exact ⟨_, rfl, by decide, by decide, by decide⟩
theorem six_at {r : Int} (h0 : 0 ≤ r) (h1 : r < 6) (M : Sto) : ∃ a b, ixF (.d (.list six)) (I r) M = some (T2 a b, M) ∧ wgtI a b = true := by
  have cs : r = 0 ∨ r = 1 ∨ r = 2 ∨ r = 3 ∨ r = 4 ∨ r = 5 := by omega
  rcases cs with rfl | rfl | rfl | rfl | rfl | rfl <;> exact ⟨_, _, rfl, by decide⟩
theorem e_K0 (γ : Ga) (M : Sto) : K__law_weight_0 γ M = some (.d (.list six), M) := rfl
theorem e_K1 (γ : Ga) (M : Sto) : K__law_weight_1 γ M = some (.d (.list belows), M) := rfl
theorem four_at {x y z w r : Int} (h0 : 0 ≤ r) (h1 : r < 4) (M : Sto) : ∃ c, ixF (.d (.list [.int x, .int y, .int z, .int w])) (I r) M = some (I c, M) ∧ (c = x ∨ c = y ∨ c = z ∨ c = w) := by
  have cs : r = 0 ∨ r = 1 ∨ r = 2 ∨ r = 3 := by omega
  rcases cs with rfl | rfl | rfl | rfl
  · exact ⟨x, rfl, .inl rfl⟩
  · exact ⟨y, rfl, .inr (.inl rfl)⟩
  · exact ⟨z, rfl, .inr (.inr (.inl rfl))⟩
  · exact ⟨w, rfl, .inr (.inr (.inr rfl))⟩
theorem e_weight {M : Sto} {i : Nat} (h : Stm M i) : ∃ a b M', F__law_weight [.c i] M = some (T2 a b, M') ∧ wgtI a b = true ∧ Nxt i M M' := by
  obtain ⟨r, M1, e1, r0, r1, n1⟩ := e_take (m := 8) h (by decide) (by decide)
  have s1 := n1.stm h
  cases c : decide (r < 6) with
  | true =>
    obtain ⟨a, b, e2, w⟩ := six_at r0 (of_decide_eq_true c) M1
    refine ⟨a, b, M1, ?_, w, n1⟩
    simp only [F__law_weight, m__law_weight, fnF, sSeq, sIf, sRet, sRetN, sNext, sAsg, sDrop, hName, hTup, hCons, hNil, hSub, gOr, gAnd, gNot, gB, gTru, truF, fCall, fCons, fNil, fVar, fC, fOp, fUn, fAnd, fOr, fNot, fIf, fChain, asB, fTup, fLst, fNew, allD, fIsi, fIsi2, pI, ifS, addI, subI, mulI, fdivI, modI, powI, ltI, leI, gtI, geI, Option.bind_some, Option.bind_none, Option.map_some, List.getElem?_cons_zero, List.getElem?_cons_succ, List.length_cons, List.length_nil, List.set_cons_zero, List.set_cons_succ, List.map_cons, List.map_nil, List.replicate_zero, List.replicate_succ, List.cons_append, List.nil_append, List.append_nil, if_true, ite_true, ite_false, Nat.reduceAdd, Nat.reduceSub, reduceIte, Bool.not_true, Bool.not_false, Bool.false_eq_true, e1, c, e_K0, e2]
  | false =>
    obtain ⟨d, M2, e2, hd, n2⟩ := e_pick (ds := belows) s1 (by decide) (by decide)
    obtain ⟨n, rfl, b0, b1, b2⟩ := below_of hd
    have s2 := n2.stm s1
    obtain ⟨t, M3, e3, t0, t1, n3⟩ := e_take (m := 1000) s2 (by decide) (by decide)
    have s3 := n3.stm s2
    cases c7 : (r == 7) with
    | false =>
      refine ⟨_, _, M3, ?_, wgt_least t0 (by omega) b0 b1, (n1.trans n2).trans n3⟩
      simp only [F__law_weight, m__law_weight, fnF, sSeq, sIf, sRet, sRetN, sNext, sAsg, sDrop, hName, hTup, hCons, hNil, hSub, gOr, gAnd, gNot, gB, gTru, truF, fCall, fCons, fNil, fVar, fC, fOp, fUn, fAnd, fOr, fNot, fIf, fChain, asB, fTup, fLst, fNew, allD, fIsi, fIsi2, pI, ifS, addI, subI, mulI, fdivI, modI, powI, ltI, leI, gtI, geI, Option.bind_some, Option.bind_none, Option.map_some, List.getElem?_cons_zero, List.getElem?_cons_succ, List.length_cons, List.length_nil, List.set_cons_zero, List.set_cons_succ, List.map_cons, List.map_nil, List.replicate_zero, List.replicate_succ, List.cons_append, List.nil_append, List.append_nil, if_true, ite_true, ite_false, Nat.reduceAdd, Nat.reduceSub, reduceIte, Bool.not_true, Bool.not_false, Bool.false_eq_true, e1, c, e_K1, e2, e3, eqII, c7, e_least M3 t0 b0 (wsm (by omega) (by omega))]
    | true =>
      obtain ⟨u, M4, e4, u0, u1, n4⟩ := e_take (m := 1000) s3 (by decide) (by decide)
      have s4 := n4.stm s3
      obtain ⟨v, M5, e5, v0, v1, n5⟩ := e_take (m := 4) s4 (by decide) (by decide)
      obtain ⟨x, e6, hx⟩ := four_at (x := 10 ^ (12 : Int).toNat) (y := 10 ^ (12 : Int).toNat - 1) (z := 1) (w := 10 ^ (9 : Int).toNat + u) v0 v1 M5
      have q1 : (10 : Int) ^ (12 : Int).toNat = 1000000000000 := rfl
      have q2 : (10 : Int) ^ (9 : Int).toNat = 1000000000 := rfl
      have x0 : 0 ≤ x ∧ x ≤ 1000000000000 := by rw [q1, q2] at hx; omega
      have p1 : powOk 10 12 = true := by decide
      have p2 : powOk 10 9 = true := by decide
      have sz : (4 : Nat) ≤ sizeLine := by decide
      refine ⟨_, _, M5, ?_, wgt_least x0.1 x0.2 b0 b1, (((n1.trans n2).trans n3).trans n4).trans n5⟩
      simp only [F__law_weight, m__law_weight, fnF, sSeq, sIf, sRet, sRetN, sNext, sAsg, sDrop, hName, hTup, hCons, hNil, hSub, gOr, gAnd, gNot, gB, gTru, truF, fCall, fCons, fNil, fVar, fC, fOp, fUn, fAnd, fOr, fNot, fIf, fChain, asB, fTup, fLst, fNew, allD, fIsi, fIsi2, pI, ifS, addI, subI, mulI, fdivI, modI, powI, ltI, leI, gtI, geI, Option.bind_some, Option.bind_none, Option.map_some, List.getElem?_cons_zero, List.getElem?_cons_succ, List.length_cons, List.length_nil, List.set_cons_zero, List.set_cons_succ, List.map_cons, List.map_nil, List.replicate_zero, List.replicate_succ, List.cons_append, List.nil_append, List.append_nil, if_true, ite_true, ite_false, Nat.reduceAdd, Nat.reduceSub, reduceIte, Bool.not_true, Bool.not_false, Bool.false_eq_true, e1, c, e_K1, e2, e3, eqII, c7, p1, p2, addII, e4, sz, e5, e6, e_least M5 x0.1 b0 (wsm (by omega) (by omega))]
end Q3

end

section
set_option Elab.async false
set_option linter.all false
set_option maxRecDepth 100000
set_option maxHeartbeats 2000000
namespace Q3
open PySem PySem.Spec PyProof.Rows L2
/-! the stream's making -/
theorem e_stream {ns : List Int} {k : Int} {M : Sto} (k0 : 0 ≤ k) (k1 : k < 1000) : ∃ M', F__law_stream [.d (.list (ns.map .int)), I k] M = some (.c M.length, M') ∧ Stm M' M.length := by
  have hl : lenF [.d (.list (ns.map .int))] M = some (I ns.length, M) := by
    show some (I ((ns.map PyData.int).length : Nat), M) = _
    rw [List.length_map]
  have k2 : k ≤ 1000 := by omega
  have kq := Int.mul_le_mul k2 k2 k0 (by decide)
  have kk : 0 ≤ k * k ∧ k * k ≤ 1000000 := ⟨Int.mul_nonneg k0 k0, by omega⟩
  have o1 : mulOk k k = true := mulOk_r (by omega)
  have sz : (2 : Nat) ≤ sizeLine := by decide
  have last : ∀ x y : Int, 0 ≤ x → 0 ≤ y → y < 2 ^ 40 → Stm (M ++ [.lst [I x, I y]]) M.length := fun x y h1 h2 h3 => ⟨x, y, by simp, h1, h2, h3⟩
  cases c : decide (k < (ns.length : Int)) with
  | false =>
    refine ⟨M ++ [.lst [I 0, I (k * k + 11)]], ?_, last _ _ (by decide) (by omega) (by omega)⟩
    simp only [F__law_stream, m__law_stream, fnF, sSeq, sIf, sRet, sRetN, sNext, sAsg, sDrop, hName, hTup, hCons, hNil, hSub, gOr, gAnd, gNot, gB, gTru, truF, fCall, fCons, fNil, fVar, fC, fOp, fUn, fAnd, fOr, fNot, fIf, fChain, asB, fTup, fLst, fNew, allD, fIsi, fIsi2, pI, ifS, addI, subI, mulI, fdivI, modI, powI, ltI, leI, gtI, geI, Option.bind_some, Option.bind_none, Option.map_some, List.getElem?_cons_zero, List.getElem?_cons_succ, List.length_cons, List.length_nil, List.set_cons_zero, List.set_cons_succ, List.map_cons, List.map_nil, List.replicate_zero, List.replicate_succ, List.cons_append, List.nil_append, List.append_nil, if_true, ite_true, ite_false, Nat.reduceAdd, Nat.reduceSub, reduceIte, Bool.not_true, Bool.not_false, Bool.false_eq_true, hl, c, o1, addII, sz]
  | true =>
    have hk : k < (ns.length : Int) := of_decide_eq_true c
    have hlt : k.toNat < ns.length := by omega
    have hd : (ns.map PyData.int)[k.toNat]? = some (.int ns[k.toNat]) := by rw [List.getElem?_map, List.getElem?_eq_getElem hlt]; rfl
    have hx := ixL (M := M) hd
    rw [Int.toNat_of_nonneg k0] at hx
    generalize ns[k.toNat] = x at hx
    have o2 : modOk x 2147483629 = true := modOk_t (by decide)
    have p1 : powOk 10 18 = true := by decide
    have q0 := Int.emod_nonneg x (b := 2147483629) (by decide)
    have q1 := Int.emod_lt_of_pos x (b := 2147483629) (by decide)
    have q18 : (10 : Int) ^ (18 : Int).toNat = 1000000000000000000 := rfl
    cases c2 : decide (x < 10 ^ (18 : Int).toNat) with
    | true =>
      refine ⟨M ++ [.lst [I 0, I (x % 2147483629 + k * k + 1)]], ?_, last _ _ (by decide) (by omega) (by omega)⟩
      simp only [F__law_stream, m__law_stream, fnF, sSeq, sIf, sRet, sRetN, sNext, sAsg, sDrop, hName, hTup, hCons, hNil, hSub, gOr, gAnd, gNot, gB, gTru, truF, fCall, fCons, fNil, fVar, fC, fOp, fUn, fAnd, fOr, fNot, fIf, fChain, asB, fTup, fLst, fNew, allD, fIsi, fIsi2, pI, ifS, addI, subI, mulI, fdivI, modI, powI, ltI, leI, gtI, geI, Option.bind_some, Option.bind_none, Option.map_some, List.getElem?_cons_zero, List.getElem?_cons_succ, List.length_cons, List.length_nil, List.set_cons_zero, List.set_cons_succ, List.map_cons, List.map_nil, List.replicate_zero, List.replicate_succ, List.cons_append, List.nil_append, List.append_nil, if_true, ite_true, ite_false, Nat.reduceAdd, Nat.reduceSub, reduceIte, Bool.not_true, Bool.not_false, Bool.false_eq_true, hl, c, hx, o1, o2, p1, addII, c2, sz]
    | false =>
      have := of_decide_eq_false c2
      refine ⟨M ++ [.lst [I x, I (x % 2147483629 + k * k + 1)]], ?_, last _ _ (by omega) (by omega) (by omega)⟩
      simp only [F__law_stream, m__law_stream, fnF, sSeq, sIf, sRet, sRetN, sNext, sAsg, sDrop, hName, hTup, hCons, hNil, hSub, gOr, gAnd, gNot, gB, gTru, truF, fCall, fCons, fNil, fVar, fC, fOp, fUn, fAnd, fOr, fNot, fIf, fChain, asB, fTup, fLst, fNew, allD, fIsi, fIsi2, pI, ifS, addI, subI, mulI, fdivI, modI, powI, ltI, leI, gtI, geI, Option.bind_some, Option.bind_none, Option.map_some, List.getElem?_cons_zero, List.getElem?_cons_succ, List.length_cons, List.length_nil, List.set_cons_zero, List.set_cons_succ, List.map_cons, List.map_nil, List.replicate_zero, List.replicate_succ, List.cons_append, List.nil_append, List.append_nil, if_true, ite_true, ite_false, Nat.reduceAdd, Nat.reduceSub, reduceIte, Bool.not_true, Bool.not_false, Bool.false_eq_true, hl, c, hx, o1, o2, p1, addII, c2, sz]
end Q3

end

section
set_option Elab.async false
set_option linter.all false
set_option maxRecDepth 100000
set_option maxHeartbeats 1000000
namespace Q3
open PySem PySem.Spec PyProof.Rows L2
/-! amounts and weights among all data -/
def amountD (x : PyData) : Bool := match itemsD x with
  | some [.int a, .int b] => amtI a b
  | _ => false
def weightD (x : PyData) : Bool := match itemsD x with
  | some [.int a, .int b] => wgtI a b
  | _ => false
def R2' (k : Bool) (p q : PyData) : PyData := if k then .list [p, q] else .tuple [p, q]
theorem R2_int (k : Bool) (a b : Int) : R2' k (.int a) (.int b) = P k a b := rfl
theorem items_R2 (k : Bool) (p q : PyData) : itemsD (R2' k p q) = some [p, q] := by cases k <;> rfl
theorem row2_of {x : PyData} (h : rowOfD x 2 = true) : ∃ k p q, x = R2' k p q := by
  obtain ⟨a, b, rfl | rfl⟩ := rowOf2 h
  · exact ⟨true, a, b, rfl⟩
  · exact ⟨false, a, b, rfl⟩
theorem nums_of {x : PyData} (h : numsD x = true) : ∃ k a b, x = P k a b := by
  have hr : rowOfD x 2 = true := by
    cases e : rowOfD x 2 with
    | true => rfl
    | false => rw [nums_row e] at h; cases h
  obtain ⟨k, p, q, rfl⟩ := row2_of hr
  unfold numsD at h
  rw [items_R2] at h
  cases p <;> cases q <;> first | exact ⟨k, _, _, rfl⟩ | simp at h
theorem amountP (k : Bool) (a b : Int) : amountD (P k a b) = amtI a b := by cases k <;> rfl
theorem weightP (k : Bool) (a b : Int) : weightD (P k a b) = wgtI a b := by cases k <;> rfl
theorem amount_nums {x : PyData} (h : numsD x = false) : amountD x = false := by
  unfold numsD at h
  unfold amountD
  split
  · rename_i a b e
    rw [e] at h
    dsimp only at h
    unfold amtI
    rw [h]
    rfl
  · rfl
theorem weight_nums {x : PyData} (h : numsD x = false) : weightD x = false := by
  unfold numsD at h
  unfold weightD
  split
  · rename_i a b e
    rw [e] at h
    dsimp only at h
    unfold wgtI
    rw [h]
    rfl
  · rfl
theorem g_is_amount (x : PyData) (M : Sto) : F_is_amount [.d x] M = some (B (amountD x), M) := by
  cases h : numsD x with
  | false =>
    rw [amount_nums h]
    simp only [F_is_amount, m_is_amount, fnF, sSeq, sIf, sRet, sRetN, sNext, sAsg, sDrop, hName, hTup, hCons, hNil, hSub, gOr, gAnd, gNot, gB, gTru, truF, fCall, fCons, fNil, fVar, fC, fOp, fUn, fAnd, fOr, fNot, fIf, fChain, asB, fTup, fLst, fNew, allD, fIsi, fIsi2, pI, ifS, addI, subI, mulI, fdivI, modI, powI, ltI, leI, gtI, geI, Option.bind_some, Option.bind_none, Option.map_some, List.getElem?_cons_zero, List.getElem?_cons_succ, List.length_cons, List.length_nil, List.set_cons_zero, List.set_cons_succ, List.map_cons, List.map_nil, List.replicate_zero, List.replicate_succ, List.cons_append, List.nil_append, List.append_nil, if_true, ite_true, ite_false, Nat.reduceAdd, Nat.reduceSub, reduceIte, Bool.not_true, Bool.not_false, Bool.false_eq_true, e_has_amount_numbers, h]
  | true =>
    obtain ⟨k, a, b, rfl⟩ := nums_of h
    rw [amountP]
    exact e_is_amount k a b M
theorem g_is_weight (x : PyData) (M : Sto) : F_is_weight [.d x] M = some (B (weightD x), M) := by
  cases h : numsD x with
  | false =>
    rw [weight_nums h]
    have e : F_is_in_parts [.d x] M = some (B false, M) := by simp only [F_is_in_parts, m_is_in_parts, fnF, sSeq, sIf, sRet, sRetN, sNext, sAsg, sDrop, hName, hTup, hCons, hNil, hSub, gOr, gAnd, gNot, gB, gTru, truF, fCall, fCons, fNil, fVar, fC, fOp, fUn, fAnd, fOr, fNot, fIf, fChain, asB, fTup, fLst, fNew, allD, fIsi, fIsi2, pI, ifS, addI, subI, mulI, fdivI, modI, powI, ltI, leI, gtI, geI, Option.bind_some, Option.bind_none, Option.map_some, List.getElem?_cons_zero, List.getElem?_cons_succ, List.length_cons, List.length_nil, List.set_cons_zero, List.set_cons_succ, List.map_cons, List.map_nil, List.replicate_zero, List.replicate_succ, List.cons_append, List.nil_append, List.append_nil, if_true, ite_true, ite_false, Nat.reduceAdd, Nat.reduceSub, reduceIte, Bool.not_true, Bool.not_false, Bool.false_eq_true, e_has_amount_numbers, h]
    simp only [F_is_weight, m_is_weight, fnF, sSeq, sIf, sRet, sRetN, sNext, sAsg, sDrop, hName, hTup, hCons, hNil, hSub, gOr, gAnd, gNot, gB, gTru, truF, fCall, fCons, fNil, fVar, fC, fOp, fUn, fAnd, fOr, fNot, fIf, fChain, asB, fTup, fLst, fNew, allD, fIsi, fIsi2, pI, ifS, addI, subI, mulI, fdivI, modI, powI, ltI, leI, gtI, geI, Option.bind_some, Option.bind_none, Option.map_some, List.getElem?_cons_zero, List.getElem?_cons_succ, List.length_cons, List.length_nil, List.set_cons_zero, List.set_cons_succ, List.map_cons, List.map_nil, List.replicate_zero, List.replicate_succ, List.cons_append, List.nil_append, List.append_nil, if_true, ite_true, ite_false, Nat.reduceAdd, Nat.reduceSub, reduceIte, Bool.not_true, Bool.not_false, Bool.false_eq_true, e]
  | true =>
    obtain ⟨k, a, b, rfl⟩ := nums_of h
    rw [weightP]
    exact e_is_weight k a b M
/-! the law's own look -/
theorem g_law_is_row (x : PyData) (M : Sto) : F__law_is_row [.d x] M = some (B (isRowD x), M) := by cases x <;> rfl
theorem amount_row {x : PyData} (h : rowOfD x 2 = false) : amountD x = false := amount_nums (nums_row h)
theorem g_C (k : Bool) (p q : PyData) (M : Sto) : C__law_is_amount_0 [some (.d (R2' k p q))] M = some (.d (.list [.bool (isWholeD p), .bool (isWholeD q)]), M) := by
  cases k <;> cases p <;> cases q <;> rfl
theorem g_all (a b : Bool) (M : Sto) : allF [.d (.list [.bool a, .bool b])] M = some (B (a && (b && true)), M) := rfl
theorem g_len (k : Bool) (p q : PyData) (M : Sto) : lenF [.d (R2' k p q)] M = some (I 2, M) := by cases k <;> rfl
theorem R2_row (k : Bool) (p q : PyData) : isRowD (R2' k p q) = true := by cases k <;> rfl
theorem g_law_is_amount (x : PyData) (M : Sto) (ho : oks x = true) : F__law_is_amount [.d x] M = some (B (amountD x), M) := by
  cases hr : rowOfD x 2 with
  | false =>
    rw [amount_row hr]
    cases hi : isRowD x with
    | false => simp only [F__law_is_amount, m__law_is_amount, fnF, sSeq, sIf, sRet, sRetN, sNext, sAsg, sDrop, hName, hTup, hCons, hNil, hSub, gOr, gAnd, gNot, gB, gTru, truF, fCall, fCons, fNil, fVar, fC, fOp, fUn, fAnd, fOr, fNot, fIf, fChain, asB, fTup, fLst, fNew, allD, fIsi, fIsi2, pI, ifS, addI, subI, mulI, fdivI, modI, powI, ltI, leI, gtI, geI, Option.bind_some, Option.bind_none, Option.map_some, List.getElem?_cons_zero, List.getElem?_cons_succ, List.length_cons, List.length_nil, List.set_cons_zero, List.set_cons_succ, List.map_cons, List.map_nil, List.replicate_zero, List.replicate_succ, List.cons_append, List.nil_append, List.append_nil, if_true, ite_true, ite_false, Nat.reduceAdd, Nat.reduceSub, reduceIte, Bool.not_true, Bool.not_false, Bool.false_eq_true, g_law_is_row, hi]
    | true =>
      have key : ∀ ds : List PyData, itemsD x = some ds → ((ds.length : Int) == 2) = false ∧ lenF [.d x] M = some (I ds.length, M) := fun ds e => by
        unfold rowOfD at hr
        rw [e] at hr
        refine ⟨hr, ?_⟩
        unfold lenF
        dsimp only
        rw [e]
        rfl
      obtain ⟨ds, e⟩ : ∃ ds, itemsD x = some ds := by cases x <;> first | exact ⟨_, rfl⟩ | (simp [isRowD] at hi)
      obtain ⟨h1, h2⟩ := key ds e
      simp only [F__law_is_amount, m__law_is_amount, fnF, sSeq, sIf, sRet, sRetN, sNext, sAsg, sDrop, hName, hTup, hCons, hNil, hSub, gOr, gAnd, gNot, gB, gTru, truF, fCall, fCons, fNil, fVar, fC, fOp, fUn, fAnd, fOr, fNot, fIf, fChain, asB, fTup, fLst, fNew, allD, fIsi, fIsi2, pI, ifS, addI, subI, mulI, fdivI, modI, powI, ltI, leI, gtI, geI, Option.bind_some, Option.bind_none, Option.map_some, List.getElem?_cons_zero, List.getElem?_cons_succ, List.length_cons, List.length_nil, List.set_cons_zero, List.set_cons_succ, List.map_cons, List.map_nil, List.replicate_zero, List.replicate_succ, List.cons_append, List.nil_append, List.append_nil, if_true, ite_true, ite_false, Nat.reduceAdd, Nat.reduceSub, reduceIte, Bool.not_true, Bool.not_false, Bool.false_eq_true, g_law_is_row, hi, h2, neII, h1]
  | true =>
    obtain ⟨k, p, q, rfl⟩ := row2_of hr
    have h2 : ((2 : Int) == 2) = true := rfl
    cases hw : (isWholeD p && (isWholeD q && true)) with
    | false =>
      have e : amountD (R2' k p q) = false := by
        unfold amountD
        rw [items_R2]
        cases p <;> cases q <;> first | rfl | (simp [isWholeD] at hw)
      rw [e]
      simp only [F__law_is_amount, m__law_is_amount, fnF, sSeq, sIf, sRet, sRetN, sNext, sAsg, sDrop, hName, hTup, hCons, hNil, hSub, gOr, gAnd, gNot, gB, gTru, truF, fCall, fCons, fNil, fVar, fC, fOp, fUn, fAnd, fOr, fNot, fIf, fChain, asB, fTup, fLst, fNew, allD, fIsi, fIsi2, pI, ifS, addI, subI, mulI, fdivI, modI, powI, ltI, leI, gtI, geI, Option.bind_some, Option.bind_none, Option.map_some, List.getElem?_cons_zero, List.getElem?_cons_succ, List.length_cons, List.length_nil, List.set_cons_zero, List.set_cons_succ, List.map_cons, List.map_nil, List.replicate_zero, List.replicate_succ, List.cons_append, List.nil_append, List.append_nil, if_true, ite_true, ite_false, Nat.reduceAdd, Nat.reduceSub, reduceIte, Bool.not_true, Bool.not_false, Bool.false_eq_true, g_law_is_row, R2_row, g_len, neII, h2, g_C, g_all, hw]
    | true =>
      obtain ⟨a, rfl⟩ : ∃ a, p = .int a := by cases p <;> first | exact ⟨_, rfl⟩ | (simp [isWholeD] at hw)
      obtain ⟨b, rfl⟩ : ∃ b, q = .int b := by cases q <;> first | exact ⟨_, rfl⟩ | (simp [isWholeD] at hw)
      rw [R2_int, amountP]
      refine e_law_is_amount k a b M ?_
      have hb : b.natAbs < 2 ^ 1900 := by
        have : (oks (.int a) && (oks (.int b) && true)) = true := by cases k <;> exact ho
        simp only [Bool.and_true, Bool.and_eq_true] at this
        exact of_decide_eq_true this.2
      exact Nat.lt_of_lt_of_le hb (Nat.pow_le_pow_right (by decide) (by decide))
theorem weight_amount {x : PyData} (h : amountD x = false) : weightD x = false := by
  unfold amountD at h
  unfold weightD
  split
  · rename_i a b e
    rw [e] at h
    dsimp only at h
    rw [wgt_of, h]
    rfl
  · rfl
theorem amount_of {x : PyData} (h : amountD x = true) : ∃ k a b, x = P k a b := by
  refine nums_of ?_
  cases e : numsD x with
  | true => rfl
  | false => rw [amount_nums e] at h; cases h
theorem P_wide {k : Bool} {a b : Int} (ho : oks (P k a b) = true) : b.natAbs < wideN := by
  have hb : b.natAbs < 2 ^ 1900 := by
    have : (oks (.int a) && (oks (.int b) && true)) = true := by cases k <;> exact ho
    simp only [Bool.and_true, Bool.and_eq_true] at this
    exact of_decide_eq_true this.2
  exact Nat.lt_of_lt_of_le hb (Nat.pow_le_pow_right (by decide) (by decide))
theorem g_law_is_weight (x : PyData) (M : Sto) (ho : oks x = true) : F__law_is_weight [.d x] M = some (B (weightD x), M) := by
  cases h : amountD x with
  | false =>
    rw [weight_amount h]
    simp only [F__law_is_weight, m__law_is_weight, fnF, sSeq, sIf, sRet, sRetN, sNext, sAsg, sDrop, hName, hTup, hCons, hNil, hSub, gOr, gAnd, gNot, gB, gTru, truF, fCall, fCons, fNil, fVar, fC, fOp, fUn, fAnd, fOr, fNot, fIf, fChain, asB, fTup, fLst, fNew, allD, fIsi, fIsi2, pI, ifS, addI, subI, mulI, fdivI, modI, powI, ltI, leI, gtI, geI, Option.bind_some, Option.bind_none, Option.map_some, List.getElem?_cons_zero, List.getElem?_cons_succ, List.length_cons, List.length_nil, List.set_cons_zero, List.set_cons_succ, List.map_cons, List.map_nil, List.replicate_zero, List.replicate_succ, List.cons_append, List.nil_append, List.append_nil, if_true, ite_true, ite_false, Nat.reduceAdd, Nat.reduceSub, reduceIte, Bool.not_true, Bool.not_false, Bool.false_eq_true, g_law_is_amount x M ho, h]
  | true =>
    obtain ⟨k, a, b, rfl⟩ := amount_of h
    rw [weightP]
    exact e_law_is_weight k a b M (P_wide ho)
theorem eqSS {s : Str} {M : Sto} : eqX true (.d (.str s)) (.d (.str s)) M = some (B false, M) := by
  show some (B (!(s == s)), M) = _
  simp
theorem eqBB {p q : Bool} {M : Sto} : eqX false (B p) (B q) M = some (B (p == q), M) := rfl
theorem isiB {p : Bool} : isiD "bool" (.bool p) = true := rfl
/-- what the law asks of one thing -/
theorem e_right {n m : Nat} {x : PyData} {M : Sto} (f : Fit n m x) (hn : n ≤ sizeLine) (hm : m ≤ 64) : F__law_right [.d x] M = some (B true, M) := by
  have bb : ∀ p : Bool, (p == p) = true := fun p => by simp
  simp only [F__law_right, m__law_right, fnF, sSeq, sIf, sRet, sRetN, sNext, sAsg, sDrop, hName, hTup, hCons, hNil, hSub, gOr, gAnd, gNot, gB, gTru, truF, fCall, fCons, fNil, fVar, fC, fOp, fUn, fAnd, fOr, fNot, fIf, fChain, asB, fTup, fLst, fNew, allD, fIsi, fIsi2, pI, ifS, addI, subI, mulI, fdivI, modI, powI, ltI, leI, gtI, geI, Option.bind_some, Option.bind_none, Option.map_some, List.getElem?_cons_zero, List.getElem?_cons_succ, List.length_cons, List.length_nil, List.set_cons_zero, List.set_cons_succ, List.map_cons, List.map_nil, List.replicate_zero, List.replicate_succ, List.cons_append, List.nil_append, List.append_nil, if_true, ite_true, ite_false, Nat.reduceAdd, Nat.reduceSub, reduceIte, Bool.not_true, Bool.not_false, Bool.false_eq_true, reprF_of f hn hm, g_is_amount, g_is_weight, isiB, eqSS, eqBB, g_law_is_amount x M f.ok, g_law_is_weight x M f.ok, bb]
end Q3

end

section
set_option Elab.async false
set_option linter.all false
set_option maxRecDepth 100000
set_option maxHeartbeats 1000000
namespace Q3
open PySem PySem.Spec PyProof.Rows L2
/-! what fits, put together -/
theorem oksAll_of {ds : List PyData} (h : ∀ d ∈ ds, oks d = true) : oksAll ds = true := by
  induction ds with
  | nil => rfl
  | cons d ds ih =>
    show (oks d && oksAll ds) = true
    rw [h d List.mem_cons_self, ih fun e he => h e (List.mem_cons_of_mem _ he)]
    rfl
theorem wtAll_le {w k : Nat} : ∀ {ds : List PyData}, (∀ d ∈ ds, wt d ≤ w) → ds.length ≤ k → wtAll ds ≤ k * (w + 2)
  | [], _, _ => Nat.zero_le _
  | d :: ds, h, hl => by
    cases k with
    | zero => simp at hl
    | succ k =>
      have h1 := h d List.mem_cons_self
      have h2 := wtAll_le (w := w) (k := k) (fun e he => h e (List.mem_cons_of_mem _ he)) (by simpa using hl)
      show wt d + 2 + wtAll ds ≤ _
      rw [Nat.succ_mul]
      omega
theorem depthAll_le {m : Nat} : ∀ {ds : List PyData}, (∀ d ∈ ds, d.depth ≤ m) → PyData.depthAll ds ≤ m
  | [], _ => Nat.zero_le _
  | d :: ds, h => by
    show max d.depth (PyData.depthAll ds) ≤ m
    exact Nat.max_le.mpr ⟨h d List.mem_cons_self, depthAll_le fun e he => h e (List.mem_cons_of_mem _ he)⟩
theorem Fit.list {w m k : Nat} {ds : List PyData} (h : ∀ d ∈ ds, Fit w m d) (hl : ds.length ≤ k) : Fit (k * (w + 2) + 3) (m + 1) (.list ds) :=
  ⟨oksAll_of fun d hd => (h d hd).ok, Nat.add_le_add_right (wtAll_le (fun d hd => (h d hd).wt) hl) 3, Nat.add_le_add_right (depthAll_le fun d hd => (h d hd).dp) 1⟩
theorem Fit.tuple {w m k : Nat} {ds : List PyData} (h : ∀ d ∈ ds, Fit w m d) (hl : ds.length ≤ k) : Fit (k * (w + 2) + 3) (m + 1) (.tuple ds) :=
  ⟨oksAll_of fun d hd => (h d hd).ok, Nat.add_le_add_right (wtAll_le (fun d hd => (h d hd).wt) hl) 3, Nat.add_le_add_right (depthAll_le fun d hd => (h d hd).dp) 1⟩
theorem Fit.int {i : Int} (h : i.natAbs < 2 ^ 1900) : Fit 2000 0 (.int i) := ⟨decide_eq_true h, Nat.le_refl _, Nat.le_refl _⟩
theorem small_int {i : Int} (h : i.natAbs < 2 ^ 200) : i.natAbs < 2 ^ 1900 := Nat.lt_of_lt_of_le h (Nat.pow_le_pow_right (by decide) (by decide))
theorem Fit.dictA {w m : Nat} {d : PyData} (f : Fit w m d) : Fit (w + 2050) (m + 1) (.dict [(.int 0, d), (.str "a", .none)]) := by
  refine ⟨?_, ?_, ?_⟩
  · show ((oks (.int 0) && oks d && (oks (.str "a") && oks .none && true))) = true
    rw [f.ok]
    decide +kernel
  · have h1 := f.wt
    show (wt (.int 0) + wt d + 4 + (wt (.str "a") + wt .none + 4 + 0)) + 3 ≤ _
    have e1 : wt (.int 0) = 2000 := rfl
    have e2 : wt (.str "a") = 3 := by decide +kernel
    have e3 : wt PyData.none = 4 := rfl
    omega
  · have h1 := f.dp
    show max (max 0 d.depth) (max (max 0 0) 0) + 1 ≤ _
    omega
/-! lists of tuples -/
mutual
def listsD : PyData → PyData
  | .tuple xs => .list (listsAll xs)
  | .none => .none
  | .bool b => .bool b
  | .int i => .int i
  | .str x => .str x
  | .list xs => .list xs
  | .dict kvs => .dict kvs
def listsAll : List PyData → List PyData
  | [] => []
  | x :: xs => listsD x :: listsAll xs
end
mutual
theorem lists_same : ∀ d : PyData, wt (listsD d) = wt d ∧ oks (listsD d) = oks d ∧ (listsD d).depth = d.depth
  | .tuple xs => by
    obtain ⟨h1, h2, h3⟩ := listsAll_same xs
    exact ⟨by show wtAll (listsAll xs) + 3 = _; rw [h1]; rfl, h2, by show PyData.depthAll (listsAll xs) + 1 = _; rw [h3]; rfl⟩
  | .none => ⟨rfl, rfl, rfl⟩
  | .bool _ => ⟨rfl, rfl, rfl⟩
  | .int _ => ⟨rfl, rfl, rfl⟩
  | .str _ => ⟨rfl, rfl, rfl⟩
  | .list _ => ⟨rfl, rfl, rfl⟩
  | .dict _ => ⟨rfl, rfl, rfl⟩
theorem listsAll_same : ∀ ds : List PyData, wtAll (listsAll ds) = wtAll ds ∧ oksAll (listsAll ds) = oksAll ds ∧ PyData.depthAll (listsAll ds) = PyData.depthAll ds
  | [] => ⟨rfl, rfl, rfl⟩
  | x :: xs => by
    obtain ⟨h1, h2, h3⟩ := lists_same x
    obtain ⟨k1, k2, k3⟩ := listsAll_same xs
    refine ⟨?_, ?_, ?_⟩
    · show wt (listsD x) + 2 + wtAll (listsAll xs) = _; rw [h1, k1]; rfl
    · show (oks (listsD x) && oksAll (listsAll xs)) = _; rw [h2, k2]; rfl
    · show max (listsD x).depth (PyData.depthAll (listsAll xs)) = _; rw [h3, k3]; rfl
end
theorem Fit.lists {n m : Nat} {d : PyData} (f : Fit n m d) : Fit n m (listsD d) := by
  obtain ⟨h1, h2, h3⟩ := lists_same d
  exact ⟨by rw [h2]; exact f.ok, by rw [h1]; exact f.wt, by rw [h3]; exact f.dp⟩
theorem allD_map : ∀ ds : List PyData, allD (ds.map .d) = some ds
  | [] => rfl
  | d :: ds => by
    show (allD (ds.map .d)).map (d :: ·) = _
    rw [allD_map ds]
    rfl
theorem lists_loop {self : FN} {M : Sto} {s : Option CD} : ∀ {ds : List PyData}, (∀ d ∈ ds, self [.d d] M = some (.d (listsD d), M)) → ∀ s, lcF (hName 0) gYes (fCall self (fCons (fVar 0) fNil)) (ds.map .d) [s] M = some ((listsAll ds).map .d, M)
  | [], _, s => rfl
  | d :: ds, h, s => by
    have e := h d List.mem_cons_self
    have ih := lists_loop (s := s) (fun e he => h e (List.mem_cons_of_mem _ he)) (some (.d d))
    show (Option.bind ((self [.d d] M)) fun r => (lcF (hName 0) gYes (fCall self (fCons (fVar 0) fNil)) (ds.map .d) [some (.d d)] r.2).bind fun q => some (r.1 :: q.1, q.2)) = _
    rw [e, Option.bind_some]
    dsimp only
    rw [ih]
    rfl
theorem wtAll_len : ∀ ds : List PyData, 2 * ds.length ≤ wtAll ds
  | [] => Nat.zero_le _
  | d :: ds => by
    have := wtAll_len ds
    show 2 * (ds.length + 1) ≤ wt d + 2 + wtAll ds
    omega
theorem depth_mem {m : Nat} : ∀ {ds : List PyData}, PyData.depthAll ds ≤ m → ∀ d ∈ ds, d.depth ≤ m
  | [], _, d, hd => absurd hd (by simp)
  | x :: xs, h, d, hd => by
    have h' : max x.depth (PyData.depthAll xs) ≤ m := h
    rcases List.mem_cons.mp hd with rfl | hd
    · omega
    · exact depth_mem (by omega) d hd
theorem wt_mem : ∀ {ds : List PyData}, ∀ d ∈ ds, wt d ≤ wtAll ds
  | [], d, hd => absurd hd (by simp)
  | x :: xs, d, hd => by
    show _ ≤ wt x + 2 + wtAll xs
    rcases List.mem_cons.mp hd with rfl | hd
    · omega
    · have := wt_mem d hd; omega
theorem e_lists (M : Sto) : ∀ (n : Nat) (d : PyData), d.depth < n → wt d ≤ sizeLine → F__law_lists n [.d d] M = some (.d (listsD d), M)
  | 0, _, h, _ => by omega
  | n + 1, d, h, hw => by
    cases d with
    | tuple ds =>
      have h' : PyData.depthAll ds + 1 < n + 1 := h
      have hw' : wtAll ds + 3 ≤ sizeLine := hw
      have hl := wtAll_len ds
      have hs : ∀ e ∈ ds, F__law_lists n [.d e] M = some (.d (listsD e), M) := fun e he => e_lists M n e (by have := depth_mem (m := PyData.depthAll ds) (Nat.le_refl _) e he; omega) (by have := wt_mem e he; omega)
      have lp := lists_loop (s := none) hs none
      have hlen : (listsAll ds).length = ds.length := by
        have : ∀ xs : List PyData, (listsAll xs).length = xs.length := fun xs => by
          induction xs with
          | nil => rfl
          | cons x xs ih => show (listsAll xs).length + 1 = _; rw [ih]; rfl
        exact this ds
      have c : C__law_lists_0 (F__law_lists n) [some (.d (.tuple ds))] M = some (.d (.list (listsAll ds)), M) := by
        have e1 : lcRun [none] (fItems (fVar 0)) (hName 0) gYes (fCall (F__law_lists n) (fCons (fVar 0) fNil)) [some (.d (.tuple ds))] M = some ((listsAll ds).map .d, M) := by
          show (if (ds.map CD.d).length ≤ sizeLine then lcF (hName 0) gYes (fCall (F__law_lists n) (fCons (fVar 0) fNil)) (ds.map .d) [none] M else none) = _
          rw [if_pos (by rw [List.length_map]; omega)]
          exact lp
        show (Option.bind (lcRun _ _ _ _ _ _ _) _) = _
        rw [e1, Option.bind_some]
        dsimp only
        rw [allD_map, Option.bind_some, if_pos (by rw [hlen]; omega)]
      have ht : isiD "tuple" (.tuple ds) = true := rfl
      simp only [F__law_lists, m__law_lists, fnF, sSeq, sIf, sRet, sRetN, sNext, sAsg, sDrop, hName, hTup, hCons, hNil, hSub, gOr, gAnd, gNot, gB, gTru, truF, fCall, fCons, fNil, fVar, fC, fOp, fUn, fAnd, fOr, fNot, fIf, fChain, asB, fTup, fLst, fNew, allD, fIsi, fIsi2, pI, ifS, addI, subI, mulI, fdivI, modI, powI, ltI, leI, gtI, geI, Option.bind_some, Option.bind_none, Option.map_some, List.getElem?_cons_zero, List.getElem?_cons_succ, List.length_cons, List.length_nil, List.set_cons_zero, List.set_cons_succ, List.map_cons, List.map_nil, List.replicate_zero, List.replicate_succ, List.cons_append, List.nil_append, List.append_nil, if_true, ite_true, ite_false, Nat.reduceAdd, Nat.reduceSub, reduceIte, Bool.not_true, Bool.not_false, Bool.false_eq_true, ht, c]
      rfl
    | _ => rfl
end Q3

end

section
set_option Elab.async false
set_option linter.all false
set_option maxRecDepth 100000
set_option maxHeartbeats 2000000
namespace Q3
open PySem PySem.Spec PyProof.Rows L2
theorem at_list {ds : List PyData} {r : Int} (h0 : 0 ≤ r) (h1 : r < ds.length) (M : Sto) : ∃ d ∈ ds, ixF (.d (.list ds)) (I r) M = some (.d d, M) := by
  have hlt : r.toNat < ds.length := by omega
  have hd : ds[r.toNat]? = some ds[r.toNat] := List.getElem?_eq_getElem hlt
  have hx := ixL (M := M) hd
  rw [Int.toNat_of_nonneg h0] at hx
  exact ⟨_, List.getElem_mem hlt, hx⟩
theorem eqII' {i j : Int} {M : Sto} : eqX false (I i) (I j) M = some (B (i == j), M) := rfl
def Wn : Nat → Nat
  | 0 => 2000
  | k + 1 => 3 * (Wn k + 2) + 3 + 2050
theorem Wn_ge : ∀ k, 2000 ≤ Wn k
  | 0 => Nat.le_refl _
  | k + 1 => by
    have := Wn_ge k
    show 2000 ≤ 3 * (Wn k + 2) + 3 + 2050
    omega
def sevens : List PyData := [.int 0, .int 1, .int 2, .int 3, .int (-1), .int 40, .int 55440]
def threes : List PyData := [.bool true, .bool false, .none]
def sixes : List PyData := [.str "", .str "1", .str "1/2", .str "place", .str "tie", .str "ab"]
theorem k_any0 (γ : Ga) (M : Sto) : K__law_any_0 γ M = some (.d (.list sevens), M) := rfl
theorem k_any1 (γ : Ga) (M : Sto) : K__law_any_1 γ M = some (.d (.list threes), M) := rfl
theorem k_any2 (γ : Ga) (M : Sto) : K__law_any_2 γ M = some (.d (.list sixes), M) := rfl
theorem fit_sevens : ∀ d ∈ sevens, Fit 2000 0 d := by
  intro d hd
  unfold sevens at hd
  simp only [List.mem_cons, List.not_mem_nil, or_false] at hd
  rcases hd with rfl | rfl | rfl | rfl | rfl | rfl | rfl <;> exact Fit.int (small_int (by decide))
theorem fit_threes : ∀ d ∈ threes, Fit 2000 0 d := by
  intro d hd
  unfold threes at hd
  simp only [List.mem_cons, List.not_mem_nil, or_false] at hd
  rcases hd with rfl | rfl | rfl <;> exact ⟨rfl, by decide, Nat.le_refl _⟩
theorem fit_sixes : ∀ d ∈ sixes, Fit 2000 0 d := by
  intro d hd
  unfold sixes at hd
  simp only [List.mem_cons, List.not_mem_nil, or_false] at hd
  rcases hd with rfl | rfl | rfl | rfl | rfl | rfl <;> exact ⟨rfl, by decide +kernel, Nat.le_refl _⟩
theorem canLay_ints : ∀ ns : List Int, PyData.canLayAll0 (ns.map .int) = true
  | [] => rfl
  | n :: ns => by show (true && PyData.canLayAll0 (ns.map .int)) = true; rw [canLay_ints ns]; rfl
theorem depth_ints : ∀ ns : List Int, PyData.depthAll (ns.map .int) = 0
  | [] => rfl
  | n :: ns => by show max 0 (PyData.depthAll (ns.map .int)) = 0; rw [depth_ints ns]; rfl
theorem shaped_ints (ns : List Int) : SeqAt.shaped (.list (ns.map .int)) = true := by
  unfold SeqAt.shaped
  have e1 : PyData.canLay0 (.list (ns.map .int)) = true := canLay_ints ns
  have e2 : PyData.depth (.list (ns.map .int)) = 1 := by show PyData.depthAll (ns.map .int) + 1 = 1; rw [depth_ints]
  rw [e1, e2]
  rfl
theorem ne_nil (ns : List Int) (M : Sto) : eqX true (.d (.list (ns.map .int))) (.d (.list [])) M = some (B (!ns.isEmpty), M) := by
  have e1 := shaped_ints ns
  have e2 : SeqAt.shaped (.list []) = true := rfl
  show (if (SeqAt.shaped (.list (ns.map .int)) && SeqAt.shaped (.list [])) = true then some (B (!PyData.eqv (.list (ns.map .int)) (.list [])), M) else none) = _
  rw [e1, e2]
  cases ns <;> rfl
abbrev Sc (ns : List Int) : CD := .d (.list (ns.map .int))
/-- a new thing and the stream behind it -/
def Gives' (f : Option (CD × Sto)) (i w m : Nat) : Prop := ∃ d M', f = some (.d d, M') ∧ Fit w m d ∧ Stm M' i
theorem any_loop {self : FN} {i w m : Nat} {S : CD} {k : Int} (hself : ∀ M, Stm M i → Gives' (self [.c i, S, I (k - 1)] M) i w m) : ∀ (xs : List CD) (s : Option CD) (M : Sto), Stm M i →
    ∃ (ds : List PyData) (M' : Sto), lcF (hName 3) gYes (fCall self (fCons (fVar 0) (fCons (fVar 1) (fCons (fOp subI (fVar 2) (fC (.int 1))) fNil)))) xs [some (.c i), some S, some (I k), s] M = some (ds.map .d, M') ∧ ds.length = xs.length ∧ (∀ d ∈ ds, Fit w m d) ∧ Stm M' i
  | [], s, M, h => ⟨[], M, rfl, rfl, by simp, h⟩
  | x :: xs, s, M, h => by
    obtain ⟨d, M1, e1, f1, s1⟩ := hself M h
    obtain ⟨ds, M2, e2, l2, f2, s2⟩ := any_loop hself xs (some x) M1 s1
    refine ⟨d :: ds, M2, ?_, by simp [l2], ?_, s2⟩
    · show (Option.bind (self [.c i, S, I (k - 1)] M) fun r => (lcF (hName 3) gYes (fCall self (fCons (fVar 0) (fCons (fVar 1) (fCons (fOp subI (fVar 2) (fC (.int 1))) fNil)))) xs [some (.c i), some S, some (I k), some x] r.2).bind fun q => some (r.1 :: q.1, q.2)) = _
      rw [e1, Option.bind_some]
      dsimp only
      rw [e2]
      rfl
    · intro y hy
      rcases List.mem_cons.mp hy with rfl | hy
      · exact f1
      · exact f2 y hy
theorem any_list {self : FN} {i w m : Nat} {S : CD} {k : Int} {a b : Option CD} (hself : ∀ M, Stm M i → Gives' (self [.c i, S, I (k - 1)] M) i w m) {M : Sto} (h : Stm M i) :
    ∃ (ds : List PyData) (M' : Sto), C__law_any_0 self [some (.c i), some S, some (I k), a, b] M = some (.d (.list ds), M') ∧ ds.length ≤ 3 ∧ (∀ d ∈ ds, Fit w m d) ∧ Stm M' i := by
  obtain ⟨r, M1, e1, r0, r1, n1⟩ := e_take (m := 4) h (by decide) (by decide)
  obtain ⟨ds, M2, e2, l2, f2, s2⟩ := any_loop hself (rngD 0 r.toNat) none M1 (n1.stm h)
  have hlen : (rngD 0 r.toNat).length = r.toNat := by simp [rngD]
  have hl : ds.length ≤ 3 := by rw [l2, hlen]; omega
  have sz : (3 : Nat) ≤ sizeLine := by decide
  refine ⟨ds, M2, ?_, hl, f2, s2⟩
  have sm : small62 r = true := by
    unfold small62
    rw [decide_eq_true (show -(2 ^ 62) ≤ r by omega), decide_eq_true (show r < 2 ^ 62 by omega)]
    rfl
  have e3 : fRng1 (fCons (fCall F__law_take (fCons (fVar 0) (fCons (fC (.int 4)) fNil))) fNil) [some (.c i), some S, some (I k), a, b] M = some (rngD 0 r.toNat, M1) := by
    simp only [fRng1, fnF, sSeq, sIf, sRet, sRetN, sNext, sAsg, sDrop, hName, hTup, hCons, hNil, hSub, gOr, gAnd, gNot, gB, gTru, truF, fCall, fCons, fNil, fVar, fC, fOp, fUn, fAnd, fOr, fNot, fIf, fChain, asB, fTup, fLst, fNew, allD, fIsi, fIsi2, pI, ifS, addI, subI, mulI, fdivI, modI, powI, ltI, leI, gtI, geI, Option.bind_some, Option.bind_none, Option.map_some, List.getElem?_cons_zero, List.getElem?_cons_succ, List.length_cons, List.length_nil, List.set_cons_zero, List.set_cons_succ, List.map_cons, List.map_nil, List.replicate_zero, List.replicate_succ, List.cons_append, List.nil_append, List.append_nil, if_true, ite_true, ite_false, Nat.reduceAdd, Nat.reduceSub, reduceIte, Bool.not_true, Bool.not_false, Bool.false_eq_true, e1, sm]
  show (Option.bind (lcRun _ _ _ _ _ _ _) _) = _
  have e4 : lcRun [some 0, some 1, some 2, none] (fRng1 (fCons (fCall F__law_take (fCons (fVar 0) (fCons (fC (.int 4)) fNil))) fNil)) (hName 3) gYes (fCall self (fCons (fVar 0) (fCons (fVar 1) (fCons (fOp subI (fVar 2) (fC (.int 1))) fNil)))) [some (.c i), some S, some (I k), a, b] M = some (ds.map .d, M2) := by
    unfold lcRun
    rw [e3, Option.bind_some]
    dsimp only
    rw [if_pos (by rw [hlen]; omega)]
    exact e2
  rw [e4, Option.bind_some]
  dsimp only
  rw [allD_map, Option.bind_some, if_pos (by omega)]
theorem e_dictA {a b c e : Option CD} {d : PyData} {M : Sto} : fDict [((fC (.int 0)), (fVar 4)), ((fC (.str "a")), (fC .none))] [a, b, c, e, some (.d d)] M = some (.d (.dict [(.int 0, d), (.str "a", .none)]), (M ++ [Cell.dk []]).set M.length Cell.dead) := by
  have e1 : fPairs [((fC (.int 0)), (fVar 4)), ((fC (.str "a")), (fC .none))] [a, b, c, e, some (.d d)] (M ++ [.dk []]) = some ([(I 0, .d d), (.d (.str "a"), .d .none)], M ++ [.dk []]) := rfl
  have e2 : (M ++ [Cell.dk []])[M.length]? = some (.dk []) := by simp
  have nd : (([(.inl 0, d), (.inr "a", PyData.none)] : List (Key × PyData)).map (·.1)).Nodup := by
    show ([.inl 0, .inr "a"] : List Key).Nodup
    simp
  unfold fDict
  rw [e1, Option.bind_some]
  dsimp only
  rw [e2]
  have e3 : keyed [(I 0, .d d), (.d (.str "a"), .d .none)] = some [(.inl 0, d), (.inr "a", .none)] := rfl
  rw [e3, Option.bind_some, if_pos ⟨(by show 2 ≤ 15; decide), nd⟩]
  rfl
theorem stm_dict {M : Sto} {i : Nat} (h : Stm M i) : Stm ((M ++ [Cell.dk []]).set M.length Cell.dead) i := by
  have hlt := h.lt
  obtain ⟨a, b, h1, r⟩ := h
  refine ⟨a, b, ?_, r⟩
  rw [List.getElem?_set_ne (by omega), List.getElem?_append_left hlt]
  exact h1
end Q3

end

section
set_option Elab.async false
set_option linter.all false
set_option maxRecDepth 100000
set_option maxHeartbeats 4000000
namespace Q3
open PySem PySem.Spec PyProof.Rows L2
theorem ix_head (n : Int) (ns : List Int) (M : Sto) : ixF (Sc (n :: ns)) (I 0) M = some (I n, M) := ixL (ds := (n :: ns).map .int) (j := 0) (d := .int n) rfl
theorem int_bool (b : Bool) (M : Sto) : intF [B b] M = some (I (if b then 1 else 0), M) := rfl
theorem e_tupL (ds : List PyData) (M : Sto) : tupleF [.d (.list ds)] M = some (.d (.tuple ds), M) := rfl
theorem fit0 {w m : Nat} {k : Nat} {d : PyData} (f : Fit 2000 0 d) : Fit (Wn k) (2 * k) d := f.mono (Wn_ge k) (Nat.zero_le _)
theorem any_step {ns : List Int} {i : Nat} (k : Nat) (self : FN) (hself : k ≠ 0 → ∀ M, Stm M i → Gives' (self [.c i, Sc ns, I ((k : Int) - 1)] M) i (Wn (k - 1)) (2 * (k - 1))) {M : Sto} (h : Stm M i) :
    Gives' (fnF 3 5 (m__law_any self) [.c i, Sc ns, I (k : Int)] M) i (Wn k) (2 * k) := by
  have o3 : ∀ b : Bool, mulOk 3 (if b = true then 1 else 0) = true := fun b => mulOk_l (by decide)
  have sz : (0 : Nat) ≤ sizeLine := Nat.zero_le _
  have p1 : powOk 10 40 = true := by decide
  have p2 : powOk 10 39 = true := by decide
  -- the drawn kind
  obtain ⟨r, M1, e1, r0, r1, n1⟩ : ∃ r M1, F__law_take [.c i, I (9 - 3 * (if ((k : Int) == 0) = true then 1 else 0))] M = some (I r, M1) ∧ 0 ≤ r ∧ r < 9 - 3 * (if ((k : Int) == 0) = true then 1 else 0) ∧ Nxt i M M1 := by
    cases ((k : Int) == 0) with
    | true => exact e_take (m := 9 - 3 * 1) h (by decide) (by decide)
    | false => exact e_take (m := 9 - 3 * 0) h (by decide) (by decide)
  have s1 := n1.stm h
  cases c0 : (r == 0) with
  | true =>
    cases ns with
    | nil =>
      refine ⟨.int (-1), M1, ?_, fit0 (w := 0) (m := 0) (Fit.int (small_int (by decide))), s1⟩
      have ne := ne_nil [] M1
      simp only [m__law_any, negI, fnF, sSeq, sIf, sRet, sRetN, sNext, sAsg, sDrop, hName, hTup, hCons, hNil, hSub, gOr, gAnd, gNot, gB, gTru, truF, fCall, fCons, fNil, fVar, fC, fOp, fUn, fAnd, fOr, fNot, fIf, fChain, asB, fTup, fLst, fNew, allD, fIsi, fIsi2, pI, ifS, addI, subI, mulI, fdivI, modI, powI, ltI, leI, gtI, geI, Option.bind_some, Option.bind_none, Option.map_some, List.getElem?_cons_zero, List.getElem?_cons_succ, List.length_cons, List.length_nil, List.set_cons_zero, List.set_cons_succ, List.map_cons, List.map_nil, List.replicate_zero, List.replicate_succ, List.cons_append, List.nil_append, List.append_nil, if_true, ite_true, ite_false, Nat.reduceAdd, Nat.reduceSub, reduceIte, Bool.not_true, Bool.not_false, Bool.false_eq_true, eqII', int_bool, o3, e1, c0, sz, ne]
      rfl
    | cons n ns =>
      have q : (10 : Int) ^ (40 : Int).toNat = 10 ^ 40 := rfl
      have q' : (10 : Int) ^ (39 : Int).toNat = 10 ^ 39 := rfl
      have m1 : modOk n (10 ^ (40 : Int).toNat) = true := modOk_t (by decide)
      have b0 := Int.emod_nonneg n (b := 10 ^ (40 : Int).toNat) (by decide)
      have b1 := Int.emod_lt_of_pos n (b := 10 ^ (40 : Int).toNat) (by decide)
      refine ⟨.int (n % 10 ^ (40 : Int).toNat - 10 ^ (39 : Int).toNat), M1, ?_, fit0 (w := 0) (m := 0) (Fit.int (small_int (by rw [q, q'] at *; omega))), s1⟩
      have ne := ne_nil (n :: ns) M1
      have em : (!(n :: ns).isEmpty) = true := rfl
      simp only [m__law_any, fnF, sSeq, sIf, sRet, sRetN, sNext, sAsg, sDrop, hName, hTup, hCons, hNil, hSub, gOr, gAnd, gNot, gB, gTru, truF, fCall, fCons, fNil, fVar, fC, fOp, fUn, fAnd, fOr, fNot, fIf, fChain, asB, fTup, fLst, fNew, allD, fIsi, fIsi2, pI, ifS, addI, subI, mulI, fdivI, modI, powI, ltI, leI, gtI, geI, Option.bind_some, Option.bind_none, Option.map_some, List.getElem?_cons_zero, List.getElem?_cons_succ, List.length_cons, List.length_nil, List.set_cons_zero, List.set_cons_succ, List.map_cons, List.map_nil, List.replicate_zero, List.replicate_succ, List.cons_append, List.nil_append, List.append_nil, if_true, ite_true, ite_false, Nat.reduceAdd, Nat.reduceSub, reduceIte, Bool.not_true, Bool.not_false, Bool.false_eq_true, eqII', int_bool, o3, e1, c0, sz, ne, em, ix_head, p1, p2, m1]
  | false =>
    cases c1 : (r == 1) with
    | true =>
      obtain ⟨t, M2, e2, t0, t1, n2⟩ := e_take (m := 7) s1 (by decide) (by decide)
      obtain ⟨d, hd, e3⟩ := at_list (ds := sevens) t0 t1 M2
      refine ⟨d, M2, ?_, fit0 (w := 0) (m := 0) (fit_sevens d hd), n2.stm s1⟩
      simp only [m__law_any, fnF, sSeq, sIf, sRet, sRetN, sNext, sAsg, sDrop, hName, hTup, hCons, hNil, hSub, gOr, gAnd, gNot, gB, gTru, truF, fCall, fCons, fNil, fVar, fC, fOp, fUn, fAnd, fOr, fNot, fIf, fChain, asB, fTup, fLst, fNew, allD, fIsi, fIsi2, pI, ifS, addI, subI, mulI, fdivI, modI, powI, ltI, leI, gtI, geI, Option.bind_some, Option.bind_none, Option.map_some, List.getElem?_cons_zero, List.getElem?_cons_succ, List.length_cons, List.length_nil, List.set_cons_zero, List.set_cons_succ, List.map_cons, List.map_nil, List.replicate_zero, List.replicate_succ, List.cons_append, List.nil_append, List.append_nil, if_true, ite_true, ite_false, Nat.reduceAdd, Nat.reduceSub, reduceIte, Bool.not_true, Bool.not_false, Bool.false_eq_true, eqII', int_bool, o3, e1, c0, c1, e2, k_any0, e3]
    | false =>
      cases c2 : (r == 2) with
      | true =>
        obtain ⟨t, M2, e2, t0, t1, n2⟩ := e_take (m := 3) s1 (by decide) (by decide)
        obtain ⟨d, hd, e3⟩ := at_list (ds := threes) t0 t1 M2
        refine ⟨d, M2, ?_, fit0 (w := 0) (m := 0) (fit_threes d hd), n2.stm s1⟩
        simp only [m__law_any, fnF, sSeq, sIf, sRet, sRetN, sNext, sAsg, sDrop, hName, hTup, hCons, hNil, hSub, gOr, gAnd, gNot, gB, gTru, truF, fCall, fCons, fNil, fVar, fC, fOp, fUn, fAnd, fOr, fNot, fIf, fChain, asB, fTup, fLst, fNew, allD, fIsi, fIsi2, pI, ifS, addI, subI, mulI, fdivI, modI, powI, ltI, leI, gtI, geI, Option.bind_some, Option.bind_none, Option.map_some, List.getElem?_cons_zero, List.getElem?_cons_succ, List.length_cons, List.length_nil, List.set_cons_zero, List.set_cons_succ, List.map_cons, List.map_nil, List.replicate_zero, List.replicate_succ, List.cons_append, List.nil_append, List.append_nil, if_true, ite_true, ite_false, Nat.reduceAdd, Nat.reduceSub, reduceIte, Bool.not_true, Bool.not_false, Bool.false_eq_true, eqII', int_bool, o3, e1, c0, c1, c2, e2, k_any1, e3]
      | false =>
        cases c6 : decide (r < 6) with
        | true =>
          obtain ⟨t, M2, e2, t0, t1, n2⟩ := e_take (m := 6) s1 (by decide) (by decide)
          obtain ⟨d, hd, e3⟩ := at_list (ds := sixes) t0 t1 M2
          refine ⟨d, M2, ?_, fit0 (w := 0) (m := 0) (fit_sixes d hd), n2.stm s1⟩
          simp only [m__law_any, fnF, sSeq, sIf, sRet, sRetN, sNext, sAsg, sDrop, hName, hTup, hCons, hNil, hSub, gOr, gAnd, gNot, gB, gTru, truF, fCall, fCons, fNil, fVar, fC, fOp, fUn, fAnd, fOr, fNot, fIf, fChain, asB, fTup, fLst, fNew, allD, fIsi, fIsi2, pI, ifS, addI, subI, mulI, fdivI, modI, powI, ltI, leI, gtI, geI, Option.bind_some, Option.bind_none, Option.map_some, List.getElem?_cons_zero, List.getElem?_cons_succ, List.length_cons, List.length_nil, List.set_cons_zero, List.set_cons_succ, List.map_cons, List.map_nil, List.replicate_zero, List.replicate_succ, List.cons_append, List.nil_append, List.append_nil, if_true, ite_true, ite_false, Nat.reduceAdd, Nat.reduceSub, reduceIte, Bool.not_true, Bool.not_false, Bool.false_eq_true, eqII', int_bool, o3, e1, c0, c1, c2, c6, e2, k_any2, e3]
        | false =>
          have r6 : 6 ≤ r := by have := of_decide_eq_false c6; omega
          have k0 : k ≠ 0 := by
            intro z
            subst z
            have : r < 9 - 3 * (if (((0 : Nat) : Int) == 0) = true then 1 else 0) := r1
            simp at this
            omega
          obtain ⟨ds, M2, e2, l2, f2, s2⟩ := any_list (S := Sc ns) (k := (k : Int)) (a := some (I r)) (b := none) (hself k0) s1
          obtain ⟨k', rfl⟩ : ∃ k', k = k' + 1 := ⟨k - 1, by omega⟩
          have f2' : ∀ d ∈ ds, Fit (Wn k') (2 * k') d := f2
          have w1 : 3 * (Wn k' + 2) + 3 ≤ Wn (k' + 1) := Nat.le_add_right _ _
          have d1 : 2 * k' + 1 ≤ 2 * (k' + 1) := by omega
          cases c7 : (r == 6) with
          | true =>
            refine ⟨.tuple ds, M2, ?_, (Fit.tuple f2' l2).mono w1 d1, s2⟩
            simp only [m__law_any, fnF, sSeq, sIf, sRet, sRetN, sNext, sAsg, sDrop, hName, hTup, hCons, hNil, hSub, gOr, gAnd, gNot, gB, gTru, truF, fCall, fCons, fNil, fVar, fC, fOp, fUn, fAnd, fOr, fNot, fIf, fChain, asB, fTup, fLst, fNew, allD, fIsi, fIsi2, pI, ifS, addI, subI, mulI, fdivI, modI, powI, ltI, leI, gtI, geI, Option.bind_some, Option.bind_none, Option.map_some, List.getElem?_cons_zero, List.getElem?_cons_succ, List.length_cons, List.length_nil, List.set_cons_zero, List.set_cons_succ, List.map_cons, List.map_nil, List.replicate_zero, List.replicate_succ, List.cons_append, List.nil_append, List.append_nil, if_true, ite_true, ite_false, Nat.reduceAdd, Nat.reduceSub, reduceIte, Bool.not_true, Bool.not_false, Bool.false_eq_true, eqII', int_bool, o3, e1, c0, c1, c2, c6, e2, c7, e_tupL]
          | false =>
            cases c8 : (r == 7) with
            | true =>
              refine ⟨.list ds, M2, ?_, (Fit.list f2' l2).mono w1 d1, s2⟩
              simp only [m__law_any, fnF, sSeq, sIf, sRet, sRetN, sNext, sAsg, sDrop, hName, hTup, hCons, hNil, hSub, gOr, gAnd, gNot, gB, gTru, truF, fCall, fCons, fNil, fVar, fC, fOp, fUn, fAnd, fOr, fNot, fIf, fChain, asB, fTup, fLst, fNew, allD, fIsi, fIsi2, pI, ifS, addI, subI, mulI, fdivI, modI, powI, ltI, leI, gtI, geI, Option.bind_some, Option.bind_none, Option.map_some, List.getElem?_cons_zero, List.getElem?_cons_succ, List.length_cons, List.length_nil, List.set_cons_zero, List.set_cons_succ, List.map_cons, List.map_nil, List.replicate_zero, List.replicate_succ, List.cons_append, List.nil_append, List.append_nil, if_true, ite_true, ite_false, Nat.reduceAdd, Nat.reduceSub, reduceIte, Bool.not_true, Bool.not_false, Bool.false_eq_true, eqII', int_bool, o3, e1, c0, c1, c2, c6, e2, c7, c8]
            | false =>
              have fd := Fit.dictA (Fit.list f2' l2)
              refine ⟨_, _, ?_, fd.mono (Nat.le_refl _) (by omega), stm_dict s2⟩
              have e3 := e_dictA (a := some (.c i)) (b := some (Sc ns)) (c := some (I ((k' + 1 : Nat) : Int))) (e := some (I r)) (d := .list ds) (M := M2)
              simp only [m__law_any, fnF, sSeq, sIf, sRet, sRetN, sNext, sAsg, sDrop, hName, hTup, hCons, hNil, hSub, gOr, gAnd, gNot, gB, gTru, truF, fCall, fCons, fNil, fVar, fC, fOp, fUn, fAnd, fOr, fNot, fIf, fChain, asB, fTup, fLst, fNew, allD, fIsi, fIsi2, pI, ifS, addI, subI, mulI, fdivI, modI, powI, ltI, leI, gtI, geI, Option.bind_some, Option.bind_none, Option.map_some, List.getElem?_cons_zero, List.getElem?_cons_succ, List.length_cons, List.length_nil, List.set_cons_zero, List.set_cons_succ, List.map_cons, List.map_nil, List.replicate_zero, List.replicate_succ, List.cons_append, List.nil_append, List.append_nil, if_true, ite_true, ite_false, Nat.reduceAdd, Nat.reduceSub, reduceIte, Bool.not_true, Bool.not_false, Bool.false_eq_true, eqII', int_bool, o3, e1, c0, c1, c2, c6, e2, c7, c8, e3]
theorem e_any {ns : List Int} {i : Nat} : ∀ (n k : Nat), k < n → ∀ {M : Sto}, Stm M i → Gives' (F__law_any n [.c i, Sc ns, I (k : Int)] M) i (Wn k) (2 * k)
  | 0, _, h, _, _ => by omega
  | n + 1, k, h, M, hs => by
    show Gives' (fnF 3 5 (m__law_any (F__law_any n)) [.c i, Sc ns, I (k : Int)] M) i (Wn k) (2 * k)
    refine any_step k _ (fun k0 M' hs' => ?_) hs
    have := e_any (ns := ns) n (k - 1) (by omega) hs'
    have e : ((k - 1 : Nat) : Int) = (k : Int) - 1 := by omega
    rw [e] at this
    exact this
end Q3

end

section
set_option Elab.async false
set_option linter.all false
set_option maxRecDepth 100000
set_option maxHeartbeats 4000000
namespace Q3
open PySem PySem.Spec PyProof.Rows L2
theorem cat_tup (xs ys : List PyData) (M : Sto) (h : xs.length + ys.length ≤ sizeLine) : addX (.d (.tuple xs)) (.d (.tuple ys)) M = some (.d (.tuple (xs ++ ys)), M) := by
  cases xs with
  | nil => rfl
  | cons x xs =>
    show (if (x :: xs) ≠ [] ∧ (x :: xs).length + ys.length ≤ sizeLine then some (CD.d (.tuple ((x :: xs) ++ ys)), M) else none) = _
    rw [if_pos ⟨by simp, h⟩]
theorem cut_mem {α : Type} {xs : List α} {lo hi : Option Int} {x : α} (h : x ∈ cutL xs lo hi) : x ∈ xs := List.mem_of_mem_drop (List.mem_of_mem_take h)
theorem cut_len {α : Type} (xs : List α) (lo hi : Option Int) : (cutL xs lo hi).length ≤ xs.length := by
  unfold cutL
  rw [List.length_take, List.length_drop]
  omega
theorem slT (xs : List PyData) (lo hi : Option Int) (M : Sto) : slF (.d (.tuple xs)) lo hi M = some (.d (.tuple (cutL xs lo hi)), M) := rfl
theorem asI_I (i : Int) : asI (I i) = some i := rfl
theorem at_tup {ds : List PyData} {r : Int} (h0 : 0 ≤ r) (h1 : r < ds.length) (M : Sto) : ∃ d ∈ ds, ixF (.d (.tuple ds)) (I r) M = some (.d d, M) := by
  have hlt : r.toNat < ds.length := by omega
  have hd : ds[r.toNat]? = some ds[r.toNat] := List.getElem?_eq_getElem hlt
  have e : atI ds r = some ds[r.toNat] := by
    have := atI_nat hd
    rwa [Int.toNat_of_nonneg h0] at this
  refine ⟨_, List.getElem_mem hlt, ?_⟩
  unfold ixF
  dsimp only
  show (some ds).bind _ = _
  rw [Option.bind_some, e]
  rfl
def odds : List PyData := [.none, (.bool true), (.bool false), (.int (-1)), (.int 0), (.int 1), (.int 40), (.int 1000000000001), (.str ""), (.str "1"), (.tuple []), (.tuple [(.int 1), (.int 2)]), (.tuple [(.int 2), (.int 2)]), (.tuple [(.int 0), (.int 2)]), (.tuple [(.int 1), (.int 13)]), (.dict [])]
theorem k_bent (γ : Ga) (M : Sto) : K__law_bent_0 γ M = some (.d (.list odds), M) := rfl
theorem fit_pair {a b : Int} (ha : a.natAbs < 2 ^ 200) (hb : b.natAbs < 2 ^ 200) : Fit 4100 1 (.tuple [.int a, .int b]) :=
  (Fit.tuple (w := 2000) (m := 0) (k := 2) (ds := [.int a, .int b]) (fun d hd => by
    simp only [List.mem_cons, List.not_mem_nil, or_false] at hd
    rcases hd with rfl | rfl
    · exact Fit.int (small_int ha)
    · exact Fit.int (small_int hb)) (Nat.le_refl _)).mono (by decide) (Nat.le_refl _)
theorem fit_odds : ∀ d ∈ odds, Fit 4100 1 d := by
  intro d hd
  unfold odds at hd
  simp only [List.mem_cons, List.not_mem_nil, or_false] at hd
  rcases hd with rfl | rfl | rfl | rfl | rfl | rfl | rfl | rfl | rfl | rfl | rfl | rfl | rfl | rfl | rfl | rfl
  · exact ⟨rfl, by decide, by decide⟩
  · exact ⟨rfl, by decide, by decide⟩
  · exact ⟨rfl, by decide, by decide⟩
  · exact (Fit.int (small_int (by decide))).mono (by decide) (by decide)
  · exact (Fit.int (small_int (by decide))).mono (by decide) (by decide)
  · exact (Fit.int (small_int (by decide))).mono (by decide) (by decide)
  · exact (Fit.int (small_int (by decide))).mono (by decide) (by decide)
  · exact (Fit.int (small_int (by decide))).mono (by decide) (by decide)
  · exact ⟨rfl, by decide +kernel, by decide⟩
  · exact ⟨rfl, by decide +kernel, by decide⟩
  · exact ⟨rfl, by decide, by decide⟩
  · exact fit_pair (by decide) (by decide)
  · exact fit_pair (by decide) (by decide)
  · exact fit_pair (by decide) (by decide)
  · exact fit_pair (by decide) (by decide)
  · exact ⟨rfl, by decide, by decide⟩
/-- a row of a few things -/
structure Row (n : Nat) (ds : List PyData) : Prop where
  fit : ∀ d ∈ ds, Fit 4100 1 d
  len : ds.length ≤ n
theorem e_bent {ds : List PyData} {n i : Nat} {M : Sto} (h : Stm M i) (hr : Row n ds) (h0 : 0 < ds.length) (hn : n ≤ 100) : ∃ es M', F__law_bent [.c i, .d (.tuple ds)] M = some (.d (.tuple es), M') ∧ Row (2 * n + 1) es ∧ Nxt i M M' := by
  have hl := hr.len
  obtain ⟨p, M1, e1, p0, p1, n1⟩ := e_take (m := (ds.length : Int)) h (by omega) (by omega)
  have s1 := n1.stm h
  obtain ⟨c, M2, e2, c0, c1, n2⟩ := e_take (m := 4) s1 (by decide) (by decide)
  have s2 := n2.stm s1
  have hlen : lenF [.d (.tuple ds)] M = some (I ds.length, M) := rfl
  have big : sizeLine = 16777216 := sizeLine_eq
  have l1 := cut_len ds none (some p)
  have l2 := cut_len ds (some (p + 1)) none
  have l3 := cut_len ds (some p) none
  have sz1 : (1 : Nat) ≤ sizeLine := by decide
  cases k0 : (c == 0) with
  | true =>
    refine ⟨cutL ds none (some p) ++ cutL ds (some (p + 1)) none, M2, ?_, ⟨fun d hd => ?_, by rw [List.length_append]; omega⟩, n1.trans n2⟩
    · have e3 := cat_tup (cutL ds none (some p)) (cutL ds (some (p + 1)) none) M2 (by omega)
      simp only [F__law_bent, m__law_bent, fSl, fNoPart, fPart, fnF, sSeq, sIf, sRet, sRetN, sNext, sAsg, sDrop, hName, hTup, hCons, hNil, hSub, gOr, gAnd, gNot, gB, gTru, truF, fCall, fCons, fNil, fVar, fC, fOp, fUn, fAnd, fOr, fNot, fIf, fChain, asB, fTup, fLst, fNew, allD, fIsi, fIsi2, pI, ifS, addI, subI, mulI, fdivI, modI, powI, ltI, leI, gtI, geI, Option.bind_some, Option.bind_none, Option.map_some, List.getElem?_cons_zero, List.getElem?_cons_succ, List.length_cons, List.length_nil, List.set_cons_zero, List.set_cons_succ, List.map_cons, List.map_nil, List.replicate_zero, List.replicate_succ, List.cons_append, List.nil_append, List.append_nil, if_true, ite_true, ite_false, Nat.reduceAdd, Nat.reduceSub, reduceIte, Bool.not_true, Bool.not_false, Bool.false_eq_true, hlen, e1, e2, eqII', k0, slT, asI_I, addII, e3]
    · rcases List.mem_append.mp hd with hd | hd <;> exact hr.fit d (cut_mem hd)
  | false =>
    cases k1 : (c == 1) with
    | true =>
      obtain ⟨y, hy, e4⟩ := at_tup p0 p1 M2
      refine ⟨(cutL ds none (some p) ++ [y]) ++ cutL ds (some p) none, M2, ?_, ⟨fun d hd => ?_, by rw [List.length_append, List.length_append]; simp only [List.length_singleton]; omega⟩, n1.trans n2⟩
      · have e3 := cat_tup (cutL ds none (some p)) [y] M2 (by simp only [List.length_singleton]; omega)
        have e5 := cat_tup (cutL ds none (some p) ++ [y]) (cutL ds (some p) none) M2 (by rw [List.length_append]; simp only [List.length_singleton]; omega)
        simp only [F__law_bent, m__law_bent, fSl, fNoPart, fPart, fnF, sSeq, sIf, sRet, sRetN, sNext, sAsg, sDrop, hName, hTup, hCons, hNil, hSub, gOr, gAnd, gNot, gB, gTru, truF, fCall, fCons, fNil, fVar, fC, fOp, fUn, fAnd, fOr, fNot, fIf, fChain, asB, fTup, fLst, fNew, allD, fIsi, fIsi2, pI, ifS, addI, subI, mulI, fdivI, modI, powI, ltI, leI, gtI, geI, Option.bind_some, Option.bind_none, Option.map_some, List.getElem?_cons_zero, List.getElem?_cons_succ, List.length_cons, List.length_nil, List.set_cons_zero, List.set_cons_succ, List.map_cons, List.map_nil, List.replicate_zero, List.replicate_succ, List.cons_append, List.nil_append, List.append_nil, if_true, ite_true, ite_false, Nat.reduceAdd, Nat.reduceSub, reduceIte, Bool.not_true, Bool.not_false, Bool.false_eq_true, hlen, e1, e2, eqII', k0, k1, slT, asI_I, addII, e4, sz1, e3, e5]
      · rcases List.mem_append.mp hd with hd | hd
        · rcases List.mem_append.mp hd with hd | hd
          · exact hr.fit d (cut_mem hd)
          · rw [List.mem_singleton.mp hd]; exact hr.fit y hy
        · exact hr.fit d (cut_mem hd)
    | false =>
      obtain ⟨q, M3, e4, q0, q1, n3⟩ := e_take (m := 16) s2 (by decide) (by decide)
      obtain ⟨y, hy, e5⟩ := at_list (ds := odds) q0 q1 M3
      refine ⟨(cutL ds none (some p) ++ [y]) ++ cutL ds (some (p + 1)) none, M3, ?_, ⟨fun d hd => ?_, by rw [List.length_append, List.length_append]; simp only [List.length_singleton]; omega⟩, (n1.trans n2).trans n3⟩
      · have e3 := cat_tup (cutL ds none (some p)) [y] M3 (by simp only [List.length_singleton]; omega)
        have e6 := cat_tup (cutL ds none (some p) ++ [y]) (cutL ds (some (p + 1)) none) M3 (by rw [List.length_append]; simp only [List.length_singleton]; omega)
        simp only [F__law_bent, m__law_bent, fSl, fNoPart, fPart, fnF, sSeq, sIf, sRet, sRetN, sNext, sAsg, sDrop, hName, hTup, hCons, hNil, hSub, gOr, gAnd, gNot, gB, gTru, truF, fCall, fCons, fNil, fVar, fC, fOp, fUn, fAnd, fOr, fNot, fIf, fChain, asB, fTup, fLst, fNew, allD, fIsi, fIsi2, pI, ifS, addI, subI, mulI, fdivI, modI, powI, ltI, leI, gtI, geI, Option.bind_some, Option.bind_none, Option.map_some, List.getElem?_cons_zero, List.getElem?_cons_succ, List.length_cons, List.length_nil, List.set_cons_zero, List.set_cons_succ, List.map_cons, List.map_nil, List.replicate_zero, List.replicate_succ, List.cons_append, List.nil_append, List.append_nil, if_true, ite_true, ite_false, Nat.reduceAdd, Nat.reduceSub, reduceIte, Bool.not_true, Bool.not_false, Bool.false_eq_true, hlen, e1, e2, eqII', k0, k1, slT, asI_I, addII, k_bent, e4, e5, sz1, e3, e6]
      · rcases List.mem_append.mp hd with hd | hd
        · rcases List.mem_append.mp hd with hd | hd
          · exact hr.fit d (cut_mem hd)
          · rw [List.mem_singleton.mp hd]; exact fit_odds y hy
        · exact hr.fit d (cut_mem hd)
end Q3

end

section
set_option Elab.async false
set_option linter.all false
set_option maxRecDepth 100000
set_option maxHeartbeats 4000000
namespace Q3
open PySem PySem.Spec PyProof.Rows L2
theorem forF_inv {g : GF} {b : SF} (Inv : Ga → Sto → Prop) : ∀ xs : List CD, (∀ x ∈ xs, ∀ γ M, Inv γ M → ∃ γ1 M1 γ' M', g x γ M = some (γ1, M1) ∧ b γ1 M1 = some (.nx γ', M') ∧ Inv γ' M') → ∀ γ M, Inv γ M → ∃ γ' M', forF g b xs γ M = some (.nx γ', M') ∧ Inv γ' M'
  | [], _, γ, M, h => ⟨γ, M, rfl, h⟩
  | x :: xs, hs, γ, M, h => by
    obtain ⟨γ1, M1, γ2, M2, e1, e2, h2⟩ := hs x List.mem_cons_self γ M h
    obtain ⟨γ', M', e3, h3⟩ := forF_inv Inv xs (fun y hy => hs y (List.mem_cons_of_mem _ hy)) γ2 M2 h2
    refine ⟨γ', M', ?_, h3⟩
    unfold forF
    rw [e1, Option.bind_some]
    dsimp only
    rw [e2, Option.bind_some]
    exact e3
theorem rng_mem {lo : Int} {n : Nat} {x : CD} (h : x ∈ rngD lo n) : ∃ j : Nat, j < n ∧ x = I (lo + j) := by
  unfold rngD at h
  obtain ⟨j, hj, rfl⟩ := List.mem_map.mp h
  exact ⟨j, List.mem_range.mp hj, rfl⟩
theorem mulOk_w {x y : Int} (hx : x.natAbs < wideN) (hy : y.natAbs < wideN) : mulOk x y = true := by
  unfold mulOk
  rw [decide_eq_true hx, decide_eq_true hy]
  simp
theorem pow_wide {n k : Nat} (h : n < 2 ^ k) (hk : k ≤ 8000) : n < wideN := Nat.lt_of_lt_of_le h (Nat.pow_le_pow_right (by decide) hk)
theorem mul_bits {x y : Int} {a b : Nat} (hx : x.natAbs < 2 ^ a) (hy : y.natAbs < 2 ^ b) : (x * y).natAbs < 2 ^ (a + b) := by
  rw [Int.natAbs_mul, Nat.pow_add]
  exact Nat.mul_lt_mul'' hx hy
theorem fit_pair' {a b : Int} (ha : a.natAbs < 2 ^ 1900) (hb : b.natAbs < 2 ^ 1900) : Fit 4100 1 (.tuple [.int a, .int b]) :=
  (Fit.tuple (w := 2000) (m := 0) (k := 2) (ds := [.int a, .int b]) (fun d hd => by
    simp only [List.mem_cons, List.not_mem_nil, or_false] at hd
    rcases hd with rfl | rfl
    · exact Fit.int ha
    · exact Fit.int hb) (Nat.le_refl _)).mono (by decide) (Nat.le_refl _)
theorem e_great {i : Nat} {M : Sto} (h : Stm M i) : ∃ ds M', F__law_great [.c i] M = some (.d (.list ds), M') ∧ (∀ d ∈ ds, Fit 4100 1 d) ∧ ds.length = 6 ∧ Nxt i M M' := by
  obtain ⟨t, M1, e1, t0, t1, n1⟩ := e_take (m := 5) h (by decide) (by decide)
  obtain ⟨u, M2, e2, u0, u1, n2⟩ := e_take (m := 4) (n1.stm h) (by decide) (by decide)
  have sz : (2 : Nat) ≤ sizeLine := by decide
  have sz6 : (6 : Nat) ≤ sizeLine := by decide
  have pw : powOk (3 + t) 60 = true := by
    have : t = 0 ∨ t = 1 ∨ t = 2 ∨ t = 3 ∨ t = 4 := by omega
    rcases this with rfl | rfl | rfl | rfl | rfl <;> decide
  have ob : ((3 + t) ^ (60 : Int).toNat).natAbs < 2 ^ 200 := by
    have : t = 0 ∨ t = 1 ∨ t = 2 ∨ t = 3 ∨ t = 4 := by omega
    rcases this with rfl | rfl | rfl | rfl | rfl <;> decide
  obtain ⟨one, ho⟩ : ∃ one, (3 + t) ^ (60 : Int).toNat = one := ⟨_, rfl⟩
  rw [ho] at ob
  have b2 := mul_bits ob ob
  have b3 := mul_bits b2 ob
  have uu : u = 0 ∨ u = 1 ∨ u = 2 ∨ u = 3 := by omega
  have u4 : (7 + u).natAbs < 2 ^ 4 := by rcases uu with rfl | rfl | rfl | rfl <;> decide
  have u64 : (7 + u).natAbs < 2 ^ 64 := by rcases uu with rfl | rfl | rfl | rfl <;> decide
  have b4 : (one * one * one * (7 + u)).natAbs < 2 ^ (200 + 200 + 200 + 4) := mul_bits b3 u4
  have m1 : mulOk one one = true := mulOk_w (pow_wide ob (by decide)) (pow_wide ob (by decide))
  have m2 : mulOk (one * one) one = true := mulOk_w (pow_wide b2 (by decide)) (pow_wide ob (by decide))
  have m3 : mulOk (one * one * one) (7 + u) = true := mulOk_r u64
  obtain ⟨oth, hx⟩ : ∃ oth, one * one * one * (7 + u) = oth := ⟨_, rfl⟩
  rw [hx] at b4
  have o19 : one.natAbs < 2 ^ 1900 := small_int ob
  have x19 : ∀ z : Int, z.natAbs < 2 ^ 605 → z.natAbs < 2 ^ 1900 := fun z hz => Nat.lt_of_lt_of_le hz (Nat.pow_le_pow_right (by decide) (by decide))
  have b5 : oth.natAbs + 1 ≤ 2 ^ 604 := b4
  have q1 : (2 : Nat) ^ 605 = 2 ^ 604 + 2 ^ 604 := by rw [show (605 : Nat) = 604 + 1 from rfl, Nat.pow_succ]; omega
  have q2 : 1 ≤ (2 : Nat) ^ 604 := Nat.one_le_two_pow
  have f1 : oth.natAbs < 2 ^ 1900 := x19 _ (by omega)
  have f2 : (oth + 1).natAbs < 2 ^ 1900 := x19 _ (by omega)
  have f3 : (-oth).natAbs < 2 ^ 1900 := x19 _ (by omega)
  have f4 : (-one).natAbs < 2 ^ 1900 := by rw [Int.natAbs_neg]; exact o19
  have f5 : (1 : Int).natAbs < 2 ^ 1900 := small_int (by decide)
  refine ⟨[.tuple [.int oth, .int one], .tuple [.int one, .int (oth + 1)], .tuple [.int (oth + 1), .int one], .tuple [.int one, .int 1], .tuple [.int (-oth), .int 1], .tuple [.int oth, .int (-one)]], M2, ?_, fun d hd => ?_, rfl, n1.trans n2⟩
  · simp only [F__law_great, m__law_great, negI, fnF, sSeq, sIf, sRet, sRetN, sNext, sAsg, sDrop, hName, hTup, hCons, hNil, hSub, gOr, gAnd, gNot, gB, gTru, truF, fCall, fCons, fNil, fVar, fC, fOp, fUn, fAnd, fOr, fNot, fIf, fChain, asB, fTup, fLst, fNew, allD, fIsi, fIsi2, pI, ifS, addI, subI, mulI, fdivI, modI, powI, ltI, leI, gtI, geI, Option.bind_some, Option.bind_none, Option.map_some, List.getElem?_cons_zero, List.getElem?_cons_succ, List.length_cons, List.length_nil, List.set_cons_zero, List.set_cons_succ, List.map_cons, List.map_nil, List.replicate_zero, List.replicate_succ, List.cons_append, List.nil_append, List.append_nil, if_true, ite_true, ite_false, Nat.reduceAdd, Nat.reduceSub, reduceIte, Bool.not_true, Bool.not_false, Bool.false_eq_true, e1, addII, pw, ho, m1, m2, e2, m3, hx, sz, sz6]
  · simp only [List.mem_cons, List.not_mem_nil, or_false] at hd
    rcases hd with rfl | rfl | rfl | rfl | rfl | rfl
    · exact fit_pair' f1 o19
    · exact fit_pair' o19 f2
    · exact fit_pair' f2 o19
    · exact fit_pair' o19 f5
    · exact fit_pair' f3 f5
    · exact fit_pair' f1 f4
/-! the law -/
theorem turn0 {a b c d e : Option CD} {x : PyData} {M : Sto} (f : Fit 81000 6 x) : L_law_0 [a, b, c, d, e, some (.d x)] M = some (.nx [a, b, c, d, e, some (.d x)], M) := by
  have big : sizeLine = 16777216 := sizeLine_eq
  have r1 := e_right (M := M) f (by omega) (by decide)
  have l1 := e_lists M 12 x (by have := f.dp; omega) (by have := f.wt; omega)
  have r2 := e_right (M := M) (Q3.Fit.lists f) (by omega) (by decide)
  have ft : Fit (1 * (81000 + 2) + 3) (6 + 1) (.tuple [x]) := Fit.tuple (fun d hd => by rw [List.mem_singleton.mp hd]; exact f) (by simp)
  have r3 := e_right (M := M) ft (by omega) (by decide)
  have sz : (1 : Nat) ≤ sizeLine := by decide
  simp only [L_law_0, fnF, sSeq, sIf, sRet, sRetN, sNext, sAsg, sDrop, hName, hTup, hCons, hNil, hSub, gOr, gAnd, gNot, gB, gTru, truF, fCall, fCons, fNil, fVar, fC, fOp, fUn, fAnd, fOr, fNot, fIf, fChain, asB, fTup, fLst, fNew, allD, fIsi, fIsi2, pI, ifS, addI, subI, mulI, fdivI, modI, powI, ltI, leI, gtI, geI, Option.bind_some, Option.bind_none, Option.map_some, List.getElem?_cons_zero, List.getElem?_cons_succ, List.length_cons, List.length_nil, List.set_cons_zero, List.set_cons_succ, List.map_cons, List.map_nil, List.replicate_zero, List.replicate_succ, List.cons_append, List.nil_append, List.append_nil, if_true, ite_true, ite_false, Nat.reduceAdd, Nat.reduceSub, reduceIte, Bool.not_true, Bool.not_false, Bool.false_eq_true, r1, l1, r2, sz, r3]
theorem fit_weight {a b : Int} (h : wgtI a b = true) : Fit 4100 1 (.tuple [.int a, .int b]) ∧ Row 2 [.int a, .int b] := by
  obtain ⟨h1, h2, h3, h4⟩ := wgt_b h
  have ha : a.natAbs < 2 ^ 200 := by omega
  have hb : b.natAbs < 2 ^ 200 := by omega
  refine ⟨fit_pair ha hb, fun d hd => ?_, Nat.le_refl _⟩
  simp only [List.mem_cons, List.not_mem_nil, or_false] at hd
  rcases hd with rfl | rfl
  · exact (Fit.int (small_int ha)).mono (by decide) (by decide)
  · exact (Fit.int (small_int hb)).mono (by decide) (by decide)
theorem Row.tuple {n : Nat} {ds : List PyData} (r : Row n ds) (hn : n ≤ 13) : Fit 81000 6 (.tuple ds) := (Fit.tuple r.fit (Nat.le_trans r.len hn)).mono (by decide) (by decide)
theorem Row.one {n : Nat} {ds : List PyData} (r : Row n ds) : Row (n + 1) (ds ++ [.int 1]) :=
  ⟨fun d hd => (List.mem_append.mp hd).elim (r.fit d) (fun z => by rw [List.mem_singleton.mp z]; exact (Fit.int (small_int (by decide))).mono (by decide) (by decide)), by rw [List.length_append]; have := r.len; simp only [List.length_singleton]; omega⟩
theorem Nxt.other {i j : Nat} {M M' : Sto} (n : Nxt i M M') (h : i ≠ j) : M'[j]? = M[j]? := by
  obtain ⟨a, b, rfl, _⟩ := n
  exact List.getElem?_set_ne h
theorem turn1 {ns : List Int} {k : Int} {a b c d : Option CD} {M : Sto} (k0 : 0 ≤ k) (k1 : k < 5) : ∃ γ' M', L_law_1 [some (Sc ns), some (I k), a, b, c, d] M = some (.nx γ', M') ∧ ∃ k' a' b' c' d', γ' = [some (Sc ns), k', a', b', c', d'] := by
  obtain ⟨M1, e1, s1⟩ := e_stream (ns := ns) (M := M) k0 (by omega)
  obtain ⟨i, hi⟩ : ∃ i, M.length = i := ⟨_, rfl⟩
  rw [hi] at e1 s1
  obtain ⟨wa, wb, M2, e2, hw, n2⟩ := e_weight s1
  have s2 := n2.stm s1
  obtain ⟨fw, rw0⟩ := fit_weight hw
  obtain ⟨x1, M3, e3, f3, s3⟩ := e_any (ns := ns) 5 3 (by decide) s2
  obtain ⟨x2, M4, e4, f4, s4⟩ := e_any (ns := ns) 5 3 (by decide) s3
  obtain ⟨y1, M5, e5, r5, n5⟩ := e_bent s4 rw0 (by simp) (by decide)
  have s5 := n5.stm s4
  have s5lt := s5.lt
  obtain ⟨M6, h6⟩ : ∃ M6, M5 ++ [Cell.lst [.d x1, .d x2, T2 wa wb, .d (.tuple y1)]] = M6 := ⟨_, rfl⟩
  have s6 : Stm M6 i := by
    obtain ⟨p, q, h1, r⟩ := s5
    exact ⟨p, q, by rw [← h6, List.getElem?_append_left s5lt]; exact h1, r⟩
  have j6 : M6[M5.length]? = some (.lst [.d x1, .d x2, T2 wa wb, .d (.tuple y1)]) := by rw [← h6]; simp
  obtain ⟨j, hj⟩ : ∃ j, M5.length = j := ⟨_, rfl⟩
  have ij : i ≠ j := by omega
  rw [hj] at j6
  obtain ⟨y2, M7, e7, r7, n7⟩ := e_bent s6 rw0 (by simp) (by decide)
  have s7 := n7.stm s6
  have j7 : M7[j]? = some (.lst [.d x1, .d x2, T2 wa wb, .d (.tuple y1)]) := (n7.other ij).trans j6
  have big : sizeLine = 16777216 := sizeLine_eq
  have c7 := cat_tup y2 [.int 1] M7 (by have := r7.len; simp only [List.length_singleton]; omega)
  obtain ⟨y3, M8, e8, r8, n8⟩ := e_bent s7 r7.one (by simp) (by decide)
  have s8 := n8.stm s7
  have j8 : M8[j]? = some (.lst [.d x1, .d x2, T2 wa wb, .d (.tuple y1)]) := (n8.other ij).trans j7
  have jl : j < M8.length := (List.getElem?_eq_some_iff.mp j8).1
  obtain ⟨M9, h9⟩ : ∃ M9, M8.set j (.lst [.d x1, .d x2, T2 wa wb, .d (.tuple y1), .d (.tuple y3)]) = M9 := ⟨_, rfl⟩
  have s9 : Stm M9 i := by
    obtain ⟨p, q, h1, r⟩ := s8
    exact ⟨p, q, by rw [← h9, List.getElem?_set_ne (Ne.symm ij)]; exact h1, r⟩
  have j9 : M9[j]? = some (.lst [.d x1, .d x2, T2 wa wb, .d (.tuple y1), .d (.tuple y3)]) := by rw [← h9, List.getElem?_set_self jl]
  obtain ⟨gs, M10, e10, f10, l10, n10⟩ := e_great s9
  have j10 : M10[j]? = some (.lst [.d x1, .d x2, T2 wa wb, .d (.tuple y1), .d (.tuple y3)]) := (n10.other ij).trans j9
  -- what is gone through
  have all : ∀ x ∈ [x1, x2, PyData.tuple [.int wa, .int wb], .tuple y1, .tuple y3] ++ gs, Fit 81000 6 x := by
    intro x hx
    rcases List.mem_append.mp hx with hx | hx
    · simp only [List.mem_cons, List.not_mem_nil, or_false] at hx
      rcases hx with rfl | rfl | rfl | rfl | rfl
      · exact f3.mono (by decide) (by decide)
      · exact f4.mono (by decide) (by decide)
      · exact fw.mono (by decide) (by decide)
      · exact r5.tuple (by decide)
      · exact r8.tuple (by decide)
    · exact (f10 x hx).mono (by decide) (by decide)
  have sz4 : (4 : Nat) ≤ sizeLine := by decide
  have ty : tyB "list" M6 (.c j) = true := by unfold tyB; dsimp only; rw [j6]; rfl
  have ap : appendF (.c j) [.d (.tuple y3)] M8 = some (.d .none, M9) := by
    unfold appendF
    dsimp only
    rw [j8]
    dsimp only
    rw [if_pos (by show 4 < sizeLine; decide), ← h9]
    rfl
  have cat : addX (.c j) (.d (.list gs)) M10 = some (.d (.list ([x1, x2, PyData.tuple [.int wa, .int wb], .tuple y1, .tuple y3] ++ gs)), M10) := by
    have o1 : lstOf M10 (.c j) = some [.d x1, .d x2, T2 wa wb, .d (.tuple y1), .d (.tuple y3)] := by unfold lstOf; dsimp only; rw [j10]
    have o2 : lstOf M10 (.d (.list gs)) = some (gs.map .d) := rfl
    have o3 : allD ([CD.d x1, .d x2, T2 wa wb, .d (.tuple y1), .d (.tuple y3)] ++ gs.map .d) = some ([x1, x2, PyData.tuple [.int wa, .int wb], .tuple y1, .tuple y3] ++ gs) := by
      have := allD_map ([x1, x2, PyData.tuple [.int wa, .int wb], .tuple y1, .tuple y3] ++ gs)
      rw [List.map_append] at this
      exact this
    have o4 : catL (.c j) (.d (.list gs)) M10 = some (.d (.list ([x1, x2, PyData.tuple [.int wa, .int wb], .tuple y1, .tuple y3] ++ gs)), M10) := by
      unfold catL
      rw [o1, Option.bind_some, o2, Option.bind_some, o3, Option.bind_some, if_pos (by rw [List.length_append, l10]; show 5 + 6 ≤ sizeLine; decide)]
    show (match addI (.c j) (.d (.list gs)) M10 with | some r => some r | none => _) = _
    show orF2 catL (orF2 catT0 catT) (.c j) (.d (.list gs)) M10 = _
    unfold orF2
    rw [o4]
  obtain ⟨γ2, Mz, ez, t', ht⟩ := forF_inv (g := hName 5) (b := L_law_0) (fun γ M' => ∃ t, γ = [some (Sc ns), some (I k), some (.c i), some (T2 wa wb), some (.c j), t]) (([x1, x2, PyData.tuple [.int wa, .int wb], .tuple y1, .tuple y3] ++ gs).map .d)
    (fun x hx γ M' ⟨t, hγ⟩ => by
      subst hγ
      obtain ⟨y, hy, rfl⟩ := List.mem_map.mp hx
      exact ⟨_, _, _, _, rfl, turn0 (all y hy), _, rfl⟩) [some (Sc ns), some (I k), some (.c i), some (T2 wa wb), some (.c j), d] M10 ⟨d, rfl⟩
  subst ht
  refine ⟨[some (Sc ns), some (I k), some (.c i), some (T2 wa wb), some (.c j), t'], Mz, ?_, _, _, _, _, _, rfl⟩
  have e3' : F__law_any 5 [.c i, Sc ns, I 3] M2 = some (.d x1, M3) := e3
  have e4' : F__law_any 5 [.c i, Sc ns, I 3] M3 = some (.d x2, M4) := e4
  have it : fItems (fOp addX (fVar 4) (fCall F__law_great (fCons (fVar 2) fNil))) [some (Sc ns), some (I k), some (.c i), some (T2 wa wb), some (.c j), d] M9 = some (([x1, x2, PyData.tuple [.int wa, .int wb], .tuple y1, .tuple y3] ++ gs).map .d, M10) := by
    simp only [fItems, fnF, sSeq, sIf, sRet, sRetN, sNext, sAsg, sDrop, hName, hTup, hCons, hNil, hSub, gOr, gAnd, gNot, gB, gTru, truF, fCall, fCons, fNil, fVar, fC, fOp, fUn, fAnd, fOr, fNot, fIf, fChain, asB, fTup, fLst, fNew, allD, fIsi, fIsi2, pI, ifS, addI, subI, mulI, fdivI, modI, powI, ltI, leI, gtI, geI, Option.bind_some, Option.bind_none, Option.map_some, List.getElem?_cons_zero, List.getElem?_cons_succ, List.length_cons, List.length_nil, List.set_cons_zero, List.set_cons_succ, List.map_cons, List.map_nil, List.replicate_zero, List.replicate_succ, List.cons_append, List.nil_append, List.append_nil, if_true, ite_true, ite_false, Nat.reduceAdd, Nat.reduceSub, reduceIte, Bool.not_true, Bool.not_false, Bool.false_eq_true, e10, cat]
    rfl
  have lp : sFor (fItems (fOp addX (fVar 4) (fCall F__law_great (fCons (fVar 2) fNil)))) (hName 5) L_law_0 [some (Sc ns), some (I k), some (.c i), some (T2 wa wb), some (.c j), d] M9 = some (.nx [some (Sc ns), some (I k), some (.c i), some (T2 wa wb), some (.c j), t'], Mz) := by
    unfold sFor
    rw [it, Option.bind_some]
    exact ez
  simp only [L_law_1, fMeth, fnF, sSeq, sIf, sRet, sRetN, sNext, sAsg, sDrop, hName, hTup, hCons, hNil, hSub, gOr, gAnd, gNot, gB, gTru, truF, fCall, fCons, fNil, fVar, fC, fOp, fUn, fAnd, fOr, fNot, fIf, fChain, asB, fTup, fLst, fNew, allD, fIsi, fIsi2, pI, ifS, addI, subI, mulI, fdivI, modI, powI, ltI, leI, gtI, geI, Option.bind_some, Option.bind_none, Option.map_some, List.getElem?_cons_zero, List.getElem?_cons_succ, List.length_cons, List.length_nil, List.set_cons_zero, List.set_cons_succ, List.map_cons, List.map_nil, List.replicate_zero, List.replicate_succ, List.cons_append, List.nil_append, List.append_nil, if_true, ite_true, ite_false, Nat.reduceAdd, Nat.reduceSub, reduceIte, Bool.not_true, Bool.not_false, Bool.false_eq_true, e1, e2, e3', e4', e5, sz4, hj, h6, ty, e7, eK_law_0, c7, e8, ap, lp]
theorem main (ns : List Int) (hl : ns.length ≤ 63) : ∃ M', F_law [.d (.list (ns.map .int))] [] = some (.d (.bool true), M') := by
  obtain ⟨γ2, M2, e2, k', a', b', c', d', rfl⟩ := forF_inv (g := hName 1) (b := L_law_1) (fun γ M' => ∃ k a b c d, γ = [some (Sc ns), k, a, b, c, d]) (rngD 0 5) (fun x hx γ M' ⟨k, a, b, c, d, hγ⟩ => by
      subst hγ
      obtain ⟨j, hj, rfl⟩ := rng_mem hx
      obtain ⟨γ3, M3, e3, k3, a3, b3, c3, d3, rfl⟩ := turn1 (ns := ns) (k := 0 + (j : Int)) (a := a) (b := b) (c := c) (d := d) (M := M') (by omega) (by omega)
      exact ⟨_, _, _, _, rfl, e3, k3, a3, b3, c3, d3, rfl⟩) [some (Sc ns), none, none, none, none, none] [] ⟨none, none, none, none, none, rfl⟩
  refine ⟨M2, ?_⟩
  have it : fRng1 (fCons (fC (.int 5)) fNil) [some (Sc ns), none, none, none, none, none] [] = some (rngD 0 5, []) := rfl
  have f5 : sFor (fRng1 (fCons (fC (.int 5)) fNil)) (hName 1) L_law_1 [some (Sc ns), none, none, none, none, none] [] = some (.nx [some (Sc ns), k', a', b', c', d'], M2) := by
    unfold sFor
    rw [it, Option.bind_some]
    exact e2
  simp only [F_law, m_law, fnF, sSeq, sIf, sRet, sRetN, sNext, sAsg, sDrop, hName, hTup, hCons, hNil, hSub, gOr, gAnd, gNot, gB, gTru, truF, fCall, fCons, fNil, fVar, fC, fOp, fUn, fAnd, fOr, fNot, fIf, fChain, asB, fTup, fLst, fNew, allD, fIsi, fIsi2, pI, ifS, addI, subI, mulI, fdivI, modI, powI, ltI, leI, gtI, geI, Option.bind_some, Option.bind_none, Option.map_some, List.getElem?_cons_zero, List.getElem?_cons_succ, List.length_cons, List.length_nil, List.set_cons_zero, List.set_cons_succ, List.map_cons, List.map_nil, List.replicate_zero, List.replicate_succ, List.cons_append, List.nil_append, List.append_nil, if_true, ite_true, ite_false, Nat.reduceAdd, Nat.reduceSub, reduceIte, Bool.not_true, Bool.not_false, Bool.false_eq_true, f5]
end Q3

end

open PySem PySem.W PyProof.Rows
set_option maxRecDepth 100000 in
set_option maxHeartbeats 0 in
theorem PySem.Challenge.cw_cutstree_k03_whole_any_amount_holds : PySem.Challenge.rw_cutstree_k03_whole_any_amount.Holds := by
  w_on; o_law; k_head; (case hw => w_witness2)
  k_fill
  refine L2.law_walk (l := PySem.Challenge.rw_cutstree_k03_whole_any_amount) (F := Q3.F_law) (k := 14) (p := "_law_script") (by decide +kernel) rfl rfl ⟨rfl, by decide, by decide, rfl⟩ (fun w h Y => PySem.W.kIn_of Y) ?T Q3.main
  case T =>
    intro w mg h KX G
    refine Q3.fn_law (K := _) (mg := mg) ?TT
    refine' Q3.txt_mk KX G ?z_all ?z_bool ?z_int ?z_isinstance ?z_len ?z_list ?z_range ?z_repr ?z_tuple ?u_MOST_ABOVE ?u_BELOW ?a__law_stream ?l__law_stream ?c__law_stream ?k__law_stream ?a__law_take ?l__law_take ?c__law_take ?k__law_take ?a__law_pick ?l__law_pick ?c__law_pick ?k__law_pick ?a__law_least ?l__law_least ?c__law_least ?k__law_least ?a__law_weight ?l__law_weight ?c__law_weight ?k__law_weight ?a__law_bent ?l__law_bent ?c__law_bent ?k__law_bent ?a__law_any ?l__law_any ?c__law_any ?k__law_any ?a__law_great ?l__law_great ?c__law_great ?k__law_great ?a_common ?l_common ?c_common ?k_common ?a_is_whole ?l_is_whole ?c_is_whole ?k_is_whole ?a_is_row ?l_is_row ?c_is_row ?k_is_row ?a_is_row_of ?l_is_row_of ?c_is_row_of ?k_is_row_of ?a_has_amount_numbers ?l_has_amount_numbers ?c_has_amount_numbers ?k_has_amount_numbers ?a_is_amount ?l_is_amount ?c_is_amount ?k_is_amount ?a_is_in_parts ?l_is_in_parts ?c_is_in_parts ?k_is_in_parts ?a_is_weight ?l_is_weight ?c_is_weight ?k_is_weight ?a__law_is_row ?l__law_is_row ?c__law_is_row ?k__law_is_row ?a__law_is_amount ?l__law_is_amount ?c__law_is_amount ?k__law_is_amount ?a__law_is_weight ?l__law_is_weight ?c__law_is_weight ?k__law_is_weight ?a__law_right ?l__law_right ?c__law_right ?k__law_right ?a__law_lists ?l__law_lists ?c__law_lists ?k__law_lists ?a_law ?l_law ?c_law ?k_law
    (case z_all => k_is)
    (case z_bool => k_is)
    (case z_int => k_is)
    (case z_isinstance => k_is)
    (case z_len => k_is)
    (case z_list => k_is)
    (case z_range => k_is)
    (case z_repr => k_is)
    (case z_tuple => k_is)
    (case u_MOST_ABOVE => k_is)
    (case u_BELOW => k_is)
    (case a__law_stream => k_is)
    (case l__law_stream => k_is)
    (case c__law_stream => k_is)
    (case k__law_stream => k_is)
    (case a__law_take => k_is)
    (case l__law_take => k_is)
    (case c__law_take => k_is)
    (case k__law_take => k_is)
    (case a__law_pick => k_is)
    (case l__law_pick => k_is)
    (case c__law_pick => k_is)
    (case k__law_pick => k_is)
    (case a__law_least => k_is)
    (case l__law_least => k_is)
    (case c__law_least => k_is)
    (case k__law_least => k_is)
    (case a__law_weight => k_is)
    (case l__law_weight => k_is)
    (case c__law_weight => k_is)
    (case k__law_weight => k_is)
    (case a__law_bent => k_is)
    (case l__law_bent => k_is)
    (case c__law_bent => k_is)
    (case k__law_bent => k_is)
    (case a__law_any => k_is)
    (case l__law_any => k_is)
    (case c__law_any => k_is)
    (case k__law_any => k_is)
    (case a__law_great => k_is)
    (case l__law_great => k_is)
    (case c__law_great => k_is)
    (case k__law_great => k_is)
    (case a_common => k_is)
    (case l_common => k_is)
    (case c_common => k_is)
    (case k_common => k_is)
    (case a_is_whole => k_is)
    (case l_is_whole => k_is)
    (case c_is_whole => k_is)
    (case k_is_whole => k_is)
    (case a_is_row => k_is)
    (case l_is_row => k_is)
    (case c_is_row => k_is)
    (case k_is_row => k_is)
    (case a_is_row_of => k_is)
    (case l_is_row_of => k_is)
    (case c_is_row_of => k_is)
    (case k_is_row_of => k_is)
    (case a_has_amount_numbers => k_is)
    (case l_has_amount_numbers => k_is)
    (case c_has_amount_numbers => k_is)
    (case k_has_amount_numbers => k_is)
    (case a_is_amount => k_is)
    (case l_is_amount => k_is)
    (case c_is_amount => k_is)
    (case k_is_amount => k_is)
    (case a_is_in_parts => k_is)
    (case l_is_in_parts => k_is)
    (case c_is_in_parts => k_is)
    (case k_is_in_parts => k_is)
    (case a_is_weight => k_is)
    (case l_is_weight => k_is)
    (case c_is_weight => k_is)
    (case k_is_weight => k_is)
    (case a__law_is_row => k_is)
    (case l__law_is_row => k_is)
    (case c__law_is_row => k_is)
    (case k__law_is_row => k_is)
    (case a__law_is_amount => k_is)
    (case l__law_is_amount => k_is)
    (case c__law_is_amount => k_is)
    (case k__law_is_amount => k_is)
    (case a__law_is_weight => k_is)
    (case l__law_is_weight => k_is)
    (case c__law_is_weight => k_is)
    (case k__law_is_weight => k_is)
    (case a__law_right => k_is)
    (case l__law_right => k_is)
    (case c__law_right => k_is)
    (case k__law_right => k_is)
    (case a__law_lists => k_is)
    (case l__law_lists => k_is)
    (case c__law_lists => k_is)
    (case k__law_lists => k_is)
    (case a_law => k_is)
    (case l_law => k_is)
    (case c_law => k_is)
    (case k_law => k_is)
