import PyProof.Rows.All
import Wide.All
import OpenK.AllK
import Wide.FinOn
import Lean
import PyProof.EqAt
import PyProof.EqKinds
import PyProof.TupleCall
import PyProof.ReprLen
import KE.KIsAll
import PyProof.ExcArgsOwn
import PyProof.NsDelKeeps
import KE.KTryMore
import PyProof.InstStoreFacts
import PyProof.ExcInit
import PyProof.ExcClass2
import PyProof.Rows.ListMul
import PyProof.Draws
import PyProof.EnumMake
import PyProof.Rows.EnumRows
import KE.KItemsList
import PyProof.DictCompW
import PyProof.ListRange
import PyProof.ZipIter
import PyProof.AttrMissHeap
import KE.KDictOf
import PySem.Challenge.RW_cutstree_k04_web
set_option Elab.async false
section
set_option Elab.async false
set_option linter.all false
set_option maxRecDepth 100000
namespace L2
open PySem PySem.Spec PyProof.Rows
abbrev Key := Sum Int Str
def keyIs : Key → Value → Bool
  | .inl k, v => Value.isInt k v
  | .inr x, v => Value.isStrOf x v
def keyH (w : World) : Key → Int
  | .inl k => hashInt k
  | .inr x => hashStr w x
theorem keyIs_shape : ∀ {k : Key} {v : Value}, keyIs k v = true → (∃ i t, k = Sum.inl i ∧ v = Value.int i t) ∨ (∃ x t, k = Sum.inr x ∧ v = Value.str x t)
  | .inl i, v, h => by
    obtain ⟨t, e⟩ := Value.isInt_shape (k := i) (v := v) h
    exact .inl ⟨i, t, rfl, e⟩
  | .inr x, v, h => by
    obtain ⟨t, e⟩ := Value.isStrOf_shape (x := x) (v := v) h
    exact .inr ⟨x, t, rfl, e⟩
theorem keyIs_int (i : Int) (t : Tok) : keyIs (.inl i) (.int i t) = true := by simp [keyIs, Value.isInt]
theorem keyIs_str (x : Str) (t : Tok) : keyIs (.inr x) (.str x t) = true := by simp [keyIs, Value.isStrOf]
theorem key_ll (a b : Int) : decide ((Sum.inl a : Key) = Sum.inl b) = (a == b) := by
  by_cases e : a = b
  · subst e; simp
  · have h : ¬ (Sum.inl a : Key) = Sum.inl b := fun q => e (Sum.inl.inj q)
    rw [decide_eq_false h]
    exact (beq_eq_false_iff_ne.mpr e).symm
theorem key_rr (a b : Str) : decide ((Sum.inr a : Key) = Sum.inr b) = decide (a = b) := by
  by_cases e : a = b
  · subst e; simp
  · have h : ¬ (Sum.inr a : Key) = Sum.inr b := fun q => e (Sum.inr.inj q)
    rw [decide_eq_false h, decide_eq_false e]
theorem key_lr (a : Int) (b : Str) : decide ((Sum.inl a : Key) = Sum.inr b) = false := decide_eq_false (fun q => nomatch q)
theorem key_rl (a : Str) (b : Int) : decide ((Sum.inr a : Key) = Sum.inl b) = false := decide_eq_false (fun q => nomatch q)
def mixKind (prog : Program) (w : World) : PySem.KeyKind prog w Key where
  is := keyIs
  hash := keyH w
  inj := fun v a b ha hb => by
    rcases keyIs_shape ha with ⟨i, t, rfl, rfl⟩ | ⟨x, t, rfl, rfl⟩
    · rcases keyIs_shape hb with ⟨j, u, rfl, e⟩ | ⟨y, u, rfl, e⟩
      · injection e with e1 _; rw [e1]
      · exact nomatch e
    · rcases keyIs_shape hb with ⟨j, u, rfl, e⟩ | ⟨y, u, rfl, e⟩
      · exact nomatch e
      · injection e with e1 _; rw [e1]
  byValue := fun k v h => by
    rcases keyIs_shape h with ⟨i, t, rfl, rfl⟩ | ⟨x, t, rfl, rfl⟩ <;> rfl
  pyHash := fun hv h => by
    rcases keyIs_shape hv with ⟨i, t, rfl, rfl⟩ | ⟨x, t, rfl, rfl⟩
    · exact wpAny_pyHash_int h
    · exact wpAny_pyHash_str h
  eqBool := fun hu hv h => by
    rcases keyIs_shape hu with ⟨i, t, rfl, rfl⟩ | ⟨x, t, rfl, rfl⟩
    · rcases keyIs_shape hv with ⟨j, u, rfl, rfl⟩ | ⟨y, u, rfl, rfl⟩
      · rw [key_ll] at h; exact wpAny_eqBool_int h
      · rw [key_lr] at h; exact SeqAt.EqAt.int_str i t y u _ _ _ _ h
    · rcases keyIs_shape hv with ⟨j, u, rfl, rfl⟩ | ⟨y, u, rfl, rfl⟩
      · rw [key_rl] at h; exact SeqAt.EqAt.str_int x t j u _ _ _ _ h
      · rw [key_rr] at h; exact wpAny_eqBool_str h
  «strs» := fun k x t v h => by
    rcases keyIs_shape h with ⟨i, u, rfl, e⟩ | ⟨y, u, rfl, e⟩
    · exact nomatch e
    · injection e with e1 _
      subst e1
      cases v <;> rfl
theorem mixKind_int (prog : Program) (w : World) (i : Int) (t : Tok) : (mixKind prog w).is (.inl i) (.int i t) = true := keyIs_int i t
theorem mixKind_str (prog : Program) (w : World) (x : Str) (t : Tok) : (mixKind prog w).is (.inr x) (.str x t) = true := keyIs_str x t
end L2
namespace L2
open PySem PySem.Spec PyProof.Rows
inductive V where
  | non | bl (b : Bool) | int (i : Int) | str (x : Str) | byt (b : Array UInt8) | flt (b : UInt64) | ref (a : Addr) | ty (n : String)
  deriving DecidableEq
def RelV : V → Value → Prop
  | .non, u => u = Value.none
  | .bl b, u => u = Value.bool b
  | .int i, u => ∃ t, u = Value.int i t
  | .str x, u => ∃ t, u = Value.str x t
  | .byt b, u => ∃ t, u = Value.bytes b t
  | .flt b, u => ∃ t, u = Value.float b t
  | .ref a, u => u = Value.ref a
  | .ty n, u => u = Value.type n
abbrev Vals : List V → List Value → Prop := Paired RelV
theorem Vals.length {xs : List V} {us : List Value} (r : Vals xs us) : xs.length = us.length := Paired.length r
theorem Vals.get : ∀ {xs : List V} {us : List Value} {i : Nat} {x : V}, Vals xs us → xs[i]? = some x → ∃ u, us[i]? = some u ∧ RelV x u
  | _, _, _, _, .nil, e => by simp at e
  | _, _, 0, _, .cons r _, e => by simp at e; subst e; exact ⟨_, rfl, r⟩
  | _, _, i + 1, x, .cons _ t, e => by
    obtain ⟨u, h1, h2⟩ := Vals.get (i := i) (x := x) t (by simpa using e)
    exact ⟨u, by simpa using h1, h2⟩
theorem Vals.set {x : V} {u : Value} (r : RelV x u) : ∀ {xs : List V} {us : List Value} (i : Nat), Vals xs us → Vals (xs.set i x) (us.set i u)
  | _, _, _, .nil => .nil
  | _, _, 0, .cons _ t => .cons r t
  | _, _, i + 1, .cons q t => .cons q (Vals.set r i t)
theorem Vals.append : ∀ {xs ys : List V} {us ws : List Value}, Vals xs us → Vals ys ws → Vals (xs ++ ys) (us ++ ws)
  | _, _, _, _, .nil, s => s
  | _, _, _, _, .cons r t, s => .cons r (Vals.append t s)
theorem Vals.take : ∀ {xs : List V} {us : List Value} (n : Nat), Vals xs us → Vals (xs.take n) (us.take n)
  | _, _, 0, _ => .nil
  | _, _, _ + 1, .nil => .nil
  | _, _, n + 1, .cons r t => .cons r (Vals.take n t)
theorem Vals.drop : ∀ {xs : List V} {us : List Value} (n : Nat), Vals xs us → Vals (xs.drop n) (us.drop n)
  | _, _, 0, r => r
  | _, _, _ + 1, .nil => .nil
  | _, _, n + 1, .cons _ t => Vals.drop n t
def RelO : Option V → Option Value → Prop
  | some v, some u => RelV v u
  | none, none => True
  | _, _ => False
def KV {κ : Type} : List (κ × V) → List (κ × Value) → Prop := Paired fun (p : κ × V) (q : κ × Value) => p.1 = q.1 ∧ RelV p.2 q.2
def kV : Key → V
  | .inl i => .int i
  | .inr x => .str x
inductive HO where
    | lst (xs : List V)
    | tup (xs : List V)
    | dK (kvs : List (Key × V)) | dT (kvs : List (List Key × V))
    | set (S : Int → Bool) (n : Nat)
    | ins (C dx : Addr) (fs : List (Str × V))
    | own (x : Addr)
    | xd (fs : List (Str × V))
    | met (f x : Addr)
    | rng (lo hi : Int)
    | frz (o : Obj) (u : HO)
    | tbl (ps : Array Value)
    | ext (φ : Heap → Prop)
abbrev Hp := Addr → Option HO
def upd (H : Hp) (a : Addr) (o : HO) : Hp := fun b => if b = a then some o else H b
theorem upd_same {H : Hp} {a : Addr} {o : HO} : upd H a o a = some o := by unfold upd; rw [if_pos rfl]
theorem upd_ne {H : Hp} {a b : Addr} {o : HO} (h : b ≠ a) : upd H a o b = H b := by unfold upd; rw [if_neg h]
theorem ne_of {H : Hp} {a b : Addr} {o u : HO} (h : H a = some o) (h' : H b = some u) (d : o ≠ u) : a ≠ b := by
  intro e; subst e; rw [h] at h'; exact d (Option.some.inj h')
theorem ne_of_none {H : Hp} {a b : Addr} {o : HO} (h : H a = some o) (h' : H b = none) : a ≠ b := by
  intro e; subst e; rw [h] at h'; cases h'
section
variable (P : Program) (w : World)
def ObjOk (H : Hp) (h : Heap) (a : Addr) : HO → Prop
  | .lst xs => xs.length ≤ sizeLine ∧ ∃ (its : List Value) (n : Nat), Vals xs its ∧ h.get? a = some { cls := .type "list", data := .seq its.toArray n }
  | .tup xs => xs.length ≤ sizeLine ∧ ∃ its : List Value, Vals xs its ∧ IsTup h a its.toArray
  | .dK kvs => kvs.length ≤ sizeLine ∧ (a == sysModules) = false ∧ ∃ vs, KV kvs vs ∧ h.DictOf (mixKind P w) a vs
  | .dT kvs => kvs.length ≤ sizeLine ∧ (a == sysModules) = false ∧ ∃ xs : List (List Key × Addr × Value),
      Paired (fun (p : List Key × V) (q : List Key × Addr × Value) => p.1 = q.1 ∧ H q.2.1 = some (.tup (p.1.map kV)) ∧ RelV p.2 q.2.2) kvs xs ∧
      ∃ o es ep, h.get? a = some o ∧ o.ExactDict ∧ o.data = .dict es ep ∧ es.toList = xs.map (entryOfKey (tupleKind (mixKind P w))) ∧ (xs.map (·.1)).Nodup
  | .set S n => h.SetOf (intKind P w) a S n
  | .ins C dx fs => H dx = some (.own a) ∧ fs.length ≤ 1000 ∧ dx ≠ a ∧ h.get? a = some (PySem.W.instObj C dx) ∧
      ∃ mA, h.Ns1 dx mA ∧ (∀ f, RelO (fs.lookup f) (mA f)) ∧ PySem.Within mA (fs.map (·.1))
  | .own _ => ∃ o, h.get? a = some o
  | .xd fs => ∃ mA, h.Ns1 a mA ∧ ∀ f, RelO (fs.lookup f) (mA f)
  | .rng lo hi => ∃ t u v, h.get? a = some { cls := .type "range", data := .fields #[.int lo t, .int hi u, .int 1 v] }
  | .frz o u => h.get? a = some o ∧ ObjOk H h a u
  | .tbl ps => h.get? a = some { cls := .none, data := .fields ps }
  | .met f x => h.get? a = some (PySem.W.methodObj (.ref f) (.ref x))
  | .ext φ => φ h ∧ (∃ o, h.get? a = some o) ∧ ∀ h1 h2 : Heap, φ h1 → (∀ o, h1.get? a = some o → h2.get? a = some o) → φ h2
def HOk (H : Hp) (h : Heap) : Prop := ∀ a o, H a = some o → ObjOk P w H h a o
end
section
variable {P : Program} {w : World} {H H' : Hp} {h h' : Heap} {a : Addr} {o : HO}
theorem ObjOk.lt (x : ObjOk P w H h a o) : a < h.objs.size := by
  cases o with
  | lst xs => obtain ⟨_, _, _, _, e⟩ := x; exact Heap.lt_size e
  | tup xs => obtain ⟨_, _, _, p⟩ := x; exact p.lt
  | dK kvs => obtain ⟨_, _, _, _, o, _, _, e, _⟩ := x; exact Heap.lt_size e
  | dT kvs => obtain ⟨_, _, _, _, o, _, _, e, _⟩ := x; exact Heap.lt_size e
  | set S n => obtain ⟨o, _, _, _, e, _⟩ := x; exact Heap.lt_size e
  | ins C dx fs => obtain ⟨_, _, _, e, _⟩ := x; exact Heap.lt_size e
  | own y => obtain ⟨_, e⟩ := x; exact Heap.lt_size e
  | xd fs => obtain ⟨_, ⟨_, _, _, e, _⟩, _⟩ := x; exact Heap.lt_size e
  | rng lo hi => obtain ⟨_, _, _, e⟩ := x; exact Heap.lt_size e
  | frz ob u => obtain ⟨e, _⟩ := x; exact Heap.lt_size e
  | tbl ps => exact Heap.lt_size (show h.get? a = some _ from x)
  | met f y => exact Heap.lt_size (show h.get? a = some _ from x)
  | ext φ => obtain ⟨_, ⟨_, e⟩, _⟩ := x; exact Heap.lt_size e
theorem Paired.mapP {α β : Type} {F G : α → β → Prop} : ∀ {l₁ : List α} {l₂ : List β}, Paired F l₁ l₂ → (∀ a b, F a b → G a b) → Paired G l₁ l₂
  | _, _, .nil, _ => .nil
  | _, _, .cons r t, f => .cons (f _ _ r) (Paired.mapP t f)
theorem ObjOk.stay (x : ObjOk P w H h a o) (k : ∀ b u, (b = a ∨ H b = some (.own a)) → h.get? b = some u → h'.get? b = some u)
    (ho : ∀ b, H b = some (.own a) → H' b = some (.own a)) (ht : ∀ b xs, H b = some (.tup xs) → H' b = some (.tup xs)) : ObjOk P w H' h' a o := by
  induction o with
  | lst xs => obtain ⟨z, its, n, r, e⟩ := x; exact ⟨z, its, n, r, k _ _ (.inl rfl) e⟩
  | tup xs => obtain ⟨z, its, r, ob, e, c⟩ := x; exact ⟨z, its, r, ob, k _ _ (.inl rfl) e, c⟩
  | dK kvs => obtain ⟨z, y, vs, r, ob, es, ep, e, c⟩ := x; exact ⟨z, y, vs, r, ob, es, ep, k _ _ (.inl rfl) e, c⟩
  | dT kvs =>
    obtain ⟨z, y, xs, r, ob, es, ep, e, c⟩ := x
    exact ⟨z, y, xs, Paired.mapP r fun p q z => ⟨z.1, ht _ _ z.2.1, z.2.2⟩, ob, es, ep, k _ _ (.inl rfl) e, c⟩
  | set S n => obtain ⟨ob, es, ep, t, e, c⟩ := x; exact ⟨ob, es, ep, t, k _ _ (.inl rfl) e, c⟩
  | ins C dx fs =>
    obtain ⟨d, z, ne, e, mA, ⟨od, es, ep, e2, c⟩, r⟩ := x
    exact ⟨ho _ d, z, ne, k _ _ (.inl rfl) e, mA, ⟨od, es, ep, k _ _ (.inr d) e2, c⟩, r⟩
  | own y => obtain ⟨ob, e⟩ := x; exact ⟨ob, k _ _ (.inl rfl) e⟩
  | xd fs => obtain ⟨mA, ⟨od, es, ep, e, c⟩, r⟩ := x; exact ⟨mA, ⟨od, es, ep, k _ _ (.inl rfl) e, c⟩, r⟩
  | rng lo hi => obtain ⟨t, u, v, e⟩ := x; exact ⟨t, u, v, k _ _ (.inl rfl) e⟩
  | frz ob u ih => obtain ⟨e, q⟩ := x; exact ⟨k _ _ (.inl rfl) e, ih q⟩
  | tbl ps =>
    have e : h.get? a = some { cls := .none, data := .fields ps } := x
    show h'.get? a = some { cls := .none, data := .fields ps }
    exact k a _ (.inl rfl) e
  | met f y =>
    have e : h.get? a = some (PySem.W.methodObj (.ref f) (.ref y)) := x
    show h'.get? a = some (PySem.W.methodObj (.ref f) (.ref y))
    exact k a _ (.inl rfl) e
  | ext φ => obtain ⟨p, ⟨o, e⟩, st⟩ := x; exact ⟨st _ _ p fun o q => k _ _ (.inl rfl) q, ⟨o, k _ _ (.inl rfl) e⟩, st⟩
theorem HOk.lt (x : HOk P w H h) (e : H a = some o) : a < h.objs.size := (x a o e).lt
theorem HOk.fresh (x : HOk P w H h) (e : h.objs.size ≤ a) : H a = none := by
  cases q : H a with
  | none => rfl
  | some u => exact absurd (Nat.lt_of_lt_of_le (x.lt q) e) (Nat.lt_irrefl _)
theorem HOk.kept (x : HOk P w H h) (k : ∀ b u, h.get? b = some u → h'.get? b = some u) : HOk P w H h' := fun a o e =>
  (x a o e).stay (fun b u _ q => k b u q) (fun _ q => q) fun _ _ q => q
theorem HOk.laid (x : HOk P w H h) (k : ∀ b u, h.get? b = some u → h'.get? b = some u) (hp : h.objs.size ≤ a) (new : ObjOk P w (upd H a o) h' a o) : HOk P w (upd H a o) h' := fun b u e => by
  have hn := x.fresh hp
  by_cases hb : b = a
  · subst hb; rw [upd_same] at e; cases e; exact new
  · rw [upd_ne hb] at e
    exact (x b u e).stay (fun c v _ q => k c v q) (fun c q => by rw [upd_ne (ne_of_none q hn)]; exact q) fun c xs q => by rw [upd_ne (ne_of_none q hn)]; exact q
end
def Rd (H : Hp) (a : Addr) (u : HO) : Prop := H a = some u ∨ ∃ o, H a = some (.frz o u)
theorem Rd.ok {P : Program} {w : World} {H : Hp} {h : Heap} {a : Addr} {u : HO} (r : Rd H a u) (x : HOk P w H h) : ObjOk P w H h a u := by
  rcases r with r | ⟨o, r⟩
  · exact x a u r
  · obtain ⟨_, q⟩ := x a _ r
    exact q
def Mut : Option HO → Prop
  | some (.lst _) => True
  | some (.dK _) => True
  | some (.dT _) => True
  | some (.set _ _) => True
  | some (.ins _ _ _) => True
  | some (.ext _) => True
  | _ => False
section
variable {P : Program} {w : World} {H : Hp} {h h' : Heap} {x e : Addr} {o' : HO}
theorem HOk.write (ok : HOk P w H h) (mu : Mut (H x)) (he : e = x ∨ H e = some (.own x)) (k : ∀ b u, b ≠ e → h.get? b = some u → h'.get? b = some u) (heo : ∃ u, h'.get? e = some u)
    (new : ObjOk P w (upd H x o') h' x o') : HOk P w (upd H x o') h' := fun b u q => by
  have nown : ∀ c y, H c = some (.own y) → c ≠ x := fun c y r z => by subst z; rw [r] at mu; exact mu
  have ntup : ∀ c xs, H c = some (.tup xs) → c ≠ x := fun c xs r z => by subst z; rw [r] at mu; exact mu
  by_cases hb : b = x
  · subst hb; rw [upd_same] at q; cases q; exact new
  · rw [upd_ne hb] at q
    by_cases hbe : b = e
    · have q' : H b = some (.own x) := by
        rcases he with z | z
        · exact absurd (hbe.trans z) hb
        · rw [hbe]; exact z
      rw [q] at q'; cases q'
      obtain ⟨v, hv⟩ := heo
      exact ⟨v, by rw [hbe]; exact hv⟩
    · refine (ok b u q).stay (fun c v hc r => k c v ?_ r) (fun c r => by rw [upd_ne (nown c b r)]; exact r) fun c xs r => by rw [upd_ne (ntup c xs r)]; exact r
      rcases hc with rfl | hc
      · exact hbe
      · rintro rfl
        rcases he with z | z
        · exact nown c b hc z
        · rw [hc] at z; cases z; exact hb rfl
end
structure Un (fs ex : List Addr) (H H' : Hp) (h h' : Heap) : Prop where
  keep : ∀ b o, h.get? b = some o → H b = none → b ∉ fs → b ∉ ex → h'.get? b = some o
  slot : ∀ b o, h.get? b = some o → H b = none → b ∈ fs → b ∉ ex → ∃ sl, h'.get? b = some { o with slots := sl }
  free : ∀ b o, h.get? b = some o → H b = none → b ∉ ex → H' b = none
  there : ∀ b o, h.get? b = some o → b ∉ ex → ∃ o', h'.get? b = some o'
  tups : ∀ b xs, H b = some (.tup xs) → H' b = some (.tup xs)
  frzs : ∀ b o u, H b = some (.frz o u) → H' b = some (.frz o u)
  tbls : ∀ b ps, H b = some (.tbl ps) → ∃ more, H' b = some (.tbl (ps ++ more))
section
variable {fs fs' ex ex' : List Addr} {H H1 H2 : Hp} {h h1 h2 h' : Heap} {a x e : Addr} {o : HO}
theorem Un.any (u : Un fs ex H H1 h h1) {b : Addr} {ob : Obj} (q : h.get? b = some ob) (n : H b = none) (hx : b ∉ ex) : ∃ sl, h1.get? b = some { ob with slots := sl } := by
  by_cases hb : b ∈ fs
  · exact u.slot b ob q n hb hx
  · exact ⟨ob.slots, u.keep b ob q n hb hx⟩
theorem Un.kept (k : ∀ b u, h.get? b = some u → h'.get? b = some u) : Un fs ex H H h h' :=
  ⟨fun b ob q _ _ _ => k b ob q, fun b ob q _ _ _ => ⟨ob.slots, k b ob q⟩, fun _ _ _ n _ => n, fun b ob q _ => ⟨ob, k b ob q⟩, fun _ _ q => q, fun _ _ _ q => q, fun _ ps q => ⟨#[], by rw [q]; simp⟩⟩
theorem Un.refl : Un fs ex H H h h := Un.kept fun _ _ q => q
theorem Un.laid (k : ∀ b u, h.get? b = some u → h'.get? b = some u) (hp : h.objs.size ≤ a) (hn : H a = none) : Un fs ex H (upd H a o) h h' where
  keep := fun b u q _ _ _ => k b u q
  slot := fun b u q _ _ _ => ⟨u.slots, k b u q⟩
  free := fun b u q n _ => by rw [upd_ne (Nat.ne_of_lt (Nat.lt_of_lt_of_le (Heap.lt_size q) hp))]; exact n
  there := fun b u q _ => ⟨u, k b u q⟩
  tups := fun b xs q => by rw [upd_ne (ne_of_none q hn)]; exact q
  frzs := fun b u xs q => by rw [upd_ne (ne_of_none q hn)]; exact q
  tbls := fun b ps q => ⟨#[], by rw [upd_ne (ne_of_none q hn), q]; simp⟩
theorem Un.write (mu : Mut (H x)) (he : e = x ∨ H e = some (.own x)) (k : ∀ b u, b ≠ e → h.get? b = some u → h'.get? b = some u) (heo : ∃ u, h'.get? e = some u) : Un fs ex H (upd H x o) h h' := by
  have hx : ∀ b, H b = none → b ≠ x := fun b n z => by subst z; rw [n] at mu; exact mu
  have hb : ∀ b, H b = none → b ≠ e := fun b n z => by
    subst z
    rcases he with r | r
    · exact hx b n r
    · rw [n] at r; cases r
  have hm : ∀ b u, H b = some u → ¬ Mut (some u) → b ≠ x := fun b u q nm z => by subst z; rw [q] at mu; exact nm mu
  refine ⟨fun b u q n _ _ => k b u (hb b n) q, fun b u q n _ _ => ⟨u.slots, k b u (hb b n) q⟩, fun b u q n _ => by rw [upd_ne (hx b n)]; exact n, fun b u q _ => ?_,
    fun b xs q => by rw [upd_ne (hm b _ q fun z => z)]; exact q, fun b u xs q => by rw [upd_ne (hm b _ q fun z => z)]; exact q, fun b ps q => ⟨#[], by rw [upd_ne (hm b _ q fun z => z), q]; simp⟩⟩
  by_cases hbe : b = e
  · subst hbe; exact heo
  · exact ⟨u, k b u hbe q⟩
end
def trk (h : Heap) (H : Hp) : List Addr := (List.range h.objs.size).filter fun a => (H a).isSome
def hidT (h : Heap) (H : Hp) : Heap := PySem.W.hideAll h (trk h H)
theorem hidT_size (h : Heap) (H : Hp) : (hidT h H).objs.size = h.objs.size := PySem.W.hideAll_size _ _
theorem hidT_get {h : Heap} {H : Hp} {b : Addr} {o : Obj} (e : h.get? b = some o) (n : H b = none) : (hidT h H).get? b = some o :=
  PySem.W.hideAll_get _ e fun hm => by
    have q : (H b).isSome = true := (List.mem_filter.mp hm).2
    rw [n] at q; simp at q
theorem of_hidT {h : Heap} {H : Hp} {b : Addr} {o : Obj} (e : (hidT h H).get? b = some o) : h.get? b = some o ∧ H b = none := by
  have e' : h.get? b = some o := PySem.W.of_hideAll (trk h H) e
  refine ⟨e', ?_⟩
  cases q : H b with
  | none => rfl
  | some x =>
    have hm : b ∈ trk h H := List.mem_filter.mpr ⟨List.mem_range.mpr (Heap.lt_size e'), by simp [q]⟩
    have z : (hidT h H).get? b = none := PySem.W.hideAll_none (trk h H) hm
    rw [z] at e; cases e
def allNews (g h : Heap) (L : Addr) : List (Addr × Obj) := (List.range h.objs.size).filterMap fun a => if a = L ∨ (g.get? a).isSome = true then none else (h.get? a).map fun o => (a, o)
theorem mem_allNews {g h : Heap} {L a : Addr} {o : Obj} (h1 : a ≠ L) (h2 : g.get? a = none) (h3 : h.get? a = some o) : (a, o) ∈ allNews g h L :=
  List.mem_filterMap.mpr ⟨a, List.mem_range.mpr (Heap.lt_size h3), by simp [h1, h2, h3]⟩
theorem of_mem_allNews {g h : Heap} {L : Addr} {p : Addr × Obj} (hp : p ∈ allNews g h L) : p.1 ≠ L ∧ g.get? p.1 = none ∧ h.get? p.1 = some p.2 := by
  obtain ⟨b, _, e⟩ := List.mem_filterMap.mp hp
  split at e
  · cases e
  · rename_i hn
    cases q : h.get? b with
    | none => rw [q] at e; simp at e
    | some u =>
      rw [q] at e
      simp only [Option.map_some, Option.some.injEq] at e
      subst e
      refine ⟨fun z => hn (.inl z), ?_, q⟩
      show g.get? b = none
      cases r : g.get? b with
      | none => rfl
      | some v => exact (hn (.inr (by simp [r]))).elim
def rest (g h : Heap) (L d : Addr) : List (Addr × Obj) := (allNews g h L).filter fun p => decide (p.1 ≠ d)
theorem news_all {g h : Heap} {L : Addr} : News g L h (allNews g h L) := fun p hp => let ⟨a, b, c⟩ := of_mem_allNews hp; ⟨c, a, b⟩
end L2
namespace L2
open PySem PySem.Spec PyProof.Rows
structure Mod (K : PySem.W.Frag) (mg : Str → Option Value) (base : Heap) : Prop where
  kin : K.In base
  glob : base.Ns mainGlobals mg
  blt : ∃ mb, base.Ns builtinsNs mb ∧ ∀ x : Str, x ≠ "__name__" → mb x = bootBuiltins x
  nolimit : base.NoLimit
  sysm : ∃ o es ep, base.get? sysModules = some o ∧ o.data = .dict es ep
structure Cx where
  prog : Program
  w : World
  K : PySem.W.Frag
  mg : Str → Option Value
  base : Heap
  A : Around
  N : List Str
  s₀ : Shared
  H₀ : Hp
  env : Env
  outer : List Env
  stack : List Env
  ex : List Addr
  fn : Str → Bool
  calm : Bool
  pn : List (Addr × Obj)
  xe : Value → Shared → Prop
def frs (l : List Env) : List Addr := l.filterMap (·.frame)
abbrev Cx.fs (X : Cx) : List Addr := frs X.outer
def Vis (sc : Scope) (x : Str) : Prop := sc.names.lookup x = some .local ∨ sc.names.lookup x = some .cell ∨ sc.names.lookup x = some .free
def Loc (sc : Scope) (x : Str) : Prop := sc.names.lookup x = some .local ∨ sc.names.lookup x = some .cell
def Look (env : Env) (h : Heap) (m : Str → Option Value) (x : Str) (u : Value) : Prop :=
  (env.kindOf x = some .local ∧ m x = some u) ∨ ((env.kindOf x = some .cell ∨ env.kindOf x = some .free) ∧ ∃ c, env.cells.lookup x = some c ∧ h.IsCell c (some u))
structure Cx.Ok (X : Cx) : Prop where
  mod : Mod X.K X.mg X.base
  kind : X.env.scope.kind = .function
  glob : X.env.globals = mainGlobals
  blt : X.env.builtins = builtinsNs
  above : X.s₀.heap.objs.size ≤ X.env.locals
  inj : ∀ x y c, X.env.cells.lookup x = some c → X.env.cells.lookup y = some c → x = y
  has : ∀ x, (X.env.kindOf x = some .cell ∨ X.env.kindOf x = some .free) → ∃ c, X.env.cells.lookup x = some c
  cab : ∀ x c, X.fn x = true → X.env.cells.lookup x = some c → X.s₀.heap.objs.size ≤ c
  hd : X.calm = true → X.A.handled = none
  frames : X.A.frames = some X.stack
  stk : X.stack = X.outer ∨ (X.stack = X.env :: X.outer ∧ X.env.frame = some X.env.locals)
  exf : ∀ b ∈ X.ex, b ≠ X.env.locals ∧ ∀ x c, X.env.cells.lookup x = some c → c ≠ b
  bs : ∀ b o, X.base.get? b = some o → X.s₀.heap.get? b = some o ∧ X.H₀ b = none
  bsz : X.base.objs.size ≤ X.s₀.heap.objs.size
  noex : ∀ b o, X.base.get? b = some o → b ∉ X.ex
  exfs : ∀ b ∈ X.ex, b ∉ X.fs
  funs : X.s₀.heap.FunFrames X.base X.outer
  frf : ∀ b ∈ X.fs, X.H₀ b = none
structure Inv (X : Cx) (pins : List (Addr × Obj)) (σ : List (Option V)) (H : Hp) (s : Shared) : Prop where
  ok : X.Ok
  os : s.os = X.s₀.os
  bare : AllBare s.gens
  base : Un X.fs X.ex X.H₀ H X.s₀.heap s.heap
  loc : ∃ m, s.heap.Ns X.env.locals m ∧ ∀ (i : Nat) (x : Str) (v : V), X.N[i]? = some x → σ[i]? = some (some v) → Vis X.env.scope x → ∃ u, RelV v u ∧ Look X.env s.heap m x u
  cell : ∀ x c, X.env.cells.lookup x = some c → ∃ v, s.heap.IsCell c v
  free : H X.env.locals = none
  freeC : ∀ x c, X.env.cells.lookup x = some c → H c = none
  pin : ∀ p ∈ X.pn ++ pins, s.heap.get? p.1 = some p.2 ∧ H p.1 = none ∧ p.1 ≠ X.env.locals ∧ p.1 ∉ X.fs ∧ ∀ v, p.2.data ≠ .cell v
  hok : HOk X.prog X.w H s.heap
  len : σ.length = X.N.length
section
variable {X : Cx} {pins : List (Addr × Obj)} {σ : List (Option V)} {H H' : Hp} {s : Shared} {h' : Heap}
theorem Cx.Ok.nofr (ok : X.Ok) {b : Addr} {o : Obj} (e : X.base.get? b = some o) : b ∉ X.fs := fun hb => by
  have := (ok.funs.mem hb).1
  rw [e] at this; cases this
theorem Inv.bs (I : Inv X pins σ H s) : ∀ b o, X.base.get? b = some o → s.heap.get? b = some o ∧ H b = none := fun b o e =>
  ⟨I.base.keep b o (I.ok.bs b o e).1 (I.ok.bs b o e).2 (I.ok.nofr e) (I.ok.noex b o e), I.base.free b o (I.ok.bs b o e).1 (I.ok.bs b o e).2 (I.ok.noex b o e)⟩
theorem Inv.bk (I : Inv X pins σ H s) : ∀ b o, X.base.get? b = some o → s.heap.get? b = some o := fun b o e => (I.bs b o e).1
theorem Inv.mod (I : Inv X pins σ H s) : Mod X.K X.mg X.base := I.ok.mod
theorem Inv.kIn (I : Inv X pins σ H s) : X.K.In s.heap := I.ok.mod.kin.keeps I.bk
theorem Inv.fr (I : Inv X pins σ H s) : ∃ m, Fr X.base X.env.locals s.heap m :=
  let ⟨m, hn, _⟩ := I.loc
  ⟨m, hn, I.bk, Nat.le_trans I.ok.bsz I.ok.above⟩
theorem Inv.lt (I : Inv X pins σ H s) : X.env.locals < s.heap.objs.size := let ⟨_, hn, _⟩ := I.loc; hn.lt
theorem Inv.sz (I : Inv X pins σ H s) : X.s₀.heap.objs.size ≤ s.heap.objs.size := Nat.le_trans I.ok.above (Nat.le_of_lt I.lt)
theorem Inv.nofs (I : Inv X pins σ H s) {a : Addr} (h : s.heap.objs.size ≤ a) : a ∉ X.fs := fun hb => by
  obtain ⟨_, o, ho, _⟩ := I.ok.funs.mem hb
  exact absurd (Nat.lt_of_lt_of_le (Heap.lt_size ho) (Nat.le_trans I.sz h)) (Nat.lt_irrefl _)
theorem Inv.cne (I : Inv X pins σ H s) : ∀ x c, X.env.cells.lookup x = some c → c ≠ X.env.locals := fun x c e z => by
  obtain ⟨v, o, ho, hd⟩ := I.cell x c e
  obtain ⟨m, ⟨o', es, ep, ho', hd', _⟩, _⟩ := I.loc
  rw [z, ho'] at ho; cases ho; rw [hd'] at hd; cases hd
theorem Inv.funs (I : Inv X pins σ H s) : s.heap.FunFrames X.base X.outer := by
  have all : ∀ (l : List Env), (∀ b ∈ frs l, b ∈ X.fs) → X.s₀.heap.FunFrames X.base l → s.heap.FunFrames X.base l := by
    intro l
    induction l with
    | nil => intro _ _; trivial
    | cons env r ih =>
      intro hs hl
      obtain ⟨hk, ⟨L, o, hf, hn, ho, hd⟩, hr⟩ := hl
      have hL : L ∈ X.fs := hs L (by unfold frs; rw [List.filterMap_cons, hf]; exact List.mem_cons_self)
      obtain ⟨sl, e⟩ := I.base.slot L o ho (I.ok.frf L hL) hL fun z => I.ok.exfs L z hL
      exact ⟨hk, ⟨L, _, hf, hn, e, hd⟩, ih (fun b hb => hs b (by unfold frs; rw [List.filterMap_cons, hf]; exact List.mem_cons_of_mem _ hb)) hr⟩
  exact all X.outer (fun _ hb => hb) I.ok.funs
theorem Inv.stack (I : Inv X pins σ H s) : s.heap.FunFrames X.base X.stack := by
  rcases I.ok.stk with e | ⟨e, hf⟩
  · rw [e]; exact I.funs
  · rw [e]
    obtain ⟨m, hn, _⟩ := I.loc
    refine .cons (by rw [I.ok.kind]; decide) hf hn ?_ I.funs
    exact Heap.get?_none_of_le (Nat.le_trans I.ok.bsz I.ok.above)
theorem Inv.stkSub (I : Inv X pins σ H s) : ∀ b ∈ frs X.stack, b ∈ X.env.locals :: X.fs := fun b hb => by
  rcases I.ok.stk with e | ⟨e, hf⟩
  · rw [e] at hb; exact List.mem_cons_of_mem _ hb
  · rw [e] at hb
    unfold frs at hb
    rw [List.filterMap_cons, hf] at hb
    exact hb
theorem Inv.stkFree (I : Inv X pins σ H s) : ∀ b ∈ frs X.stack, H b = none := fun b hb => by
  rcases List.mem_cons.mp (I.stkSub b hb) with e | hb
  · rw [e]; exact I.free
  · obtain ⟨_, o, ho, _⟩ := I.ok.funs.mem hb
    exact I.base.free b o ho (I.ok.frf b hb) fun z => I.ok.exfs b z hb
theorem Inv.step {g' : Array GenState} {t' : Nat} {d' : Drawn} {ch : List Addr} (I : Inv X pins σ H s)
    (hch : ∀ b ∈ ch, (b ∈ X.ex ∨ X.s₀.heap.objs.size ≤ b) ∧ b ≠ X.env.locals ∧ (∀ x c, X.env.cells.lookup x = some c → c ≠ b) ∧ ∀ p ∈ X.pn ++ pins, p.1 ≠ b)
    (keep : ∀ b o, b ≠ X.env.locals → b ∉ X.fs → b ∉ ch → s.heap.get? b = some o → H b = none → h'.get? b = some o)
    (slot : ∀ b o, b ≠ X.env.locals → b ∈ X.fs → b ∉ ch → s.heap.get? b = some o → H b = none → ∃ sl, h'.get? b = some { o with slots := sl }) (free : ∀ b o, b ∉ ch → s.heap.get? b = some o → H b = none → H' b = none)
    (there : ∀ b o, b ∉ ch → s.heap.get? b = some o → ∃ o', h'.get? b = some o')
    (tups : ∀ b xs, H b = some (.tup xs) → H' b = some (.tup xs)) (frzs : ∀ b o u, H b = some (.frz o u) → H' b = some (.frz o u)) (tbls : ∀ b ps, H b = some (.tbl ps) → ∃ more, H' b = some (.tbl (ps ++ more)))
    (ns : ∀ m, s.heap.Ns X.env.locals m → h'.Ns X.env.locals m) (hok : HOk X.prog X.w H' h') (hg : AllBare g') :
    Inv X pins σ H' { s with heap := h', gens := g', drawn := d', toks := t' } := by
  have neL : ∀ b o, X.s₀.heap.get? b = some o → b ≠ X.env.locals := fun b o e => Nat.ne_of_lt (Nat.lt_of_lt_of_le (Heap.lt_size e) I.ok.above)
  have neC : ∀ b o, X.s₀.heap.get? b = some o → b ∉ X.ex → b ∉ ch := fun b o e hx hb => by
    rcases (hch b hb).1 with z | z
    · exact hx z
    · exact absurd (Nat.lt_of_lt_of_le (Heap.lt_size e) z) (Nat.lt_irrefl _)
  have cellK : ∀ x c, X.env.cells.lookup x = some c → ∀ v, s.heap.IsCell c v → h'.IsCell c v := fun x c e v ⟨o, ho, hd⟩ => by
    have nch : c ∉ ch := fun z => (hch c z).2.2.1 x c e rfl
    by_cases hc : c ∈ X.fs
    · obtain ⟨sl, q⟩ := slot c o (I.cne x c e) hc nch ho (I.freeC x c e)
      exact ⟨_, q, hd⟩
    · exact ⟨o, keep c o (I.cne x c e) hc nch ho (I.freeC x c e), hd⟩
  refine ⟨I.ok, I.os, hg, ⟨fun b o e n hb hx => ?_, fun b o e n hb hx => ?_, fun b o e n hx => ?_, fun b o e hx => ?_, fun b xs e => tups b xs (I.base.tups b xs e), fun b o xs e => frzs b o xs (I.base.frzs b o xs e), fun b ps e => ?_⟩, ?_, fun x c e => ?_, ?_, fun x c e => ?_, fun p hp => ?_, hok, I.len⟩
  · exact keep b o (neL b o e) hb (neC b o e hx) (I.base.keep b o e n hb hx) (I.base.free b o e n hx)
  · obtain ⟨sl, e1⟩ := I.base.slot b o e n hb hx
    obtain ⟨sl', e2⟩ := slot b _ (neL b o e) hb (neC b o e hx) e1 (I.base.free b o e n hx)
    exact ⟨sl', e2⟩
  · obtain ⟨o', e1⟩ := I.base.there b o e hx
    exact free b o' (neC b o e hx) e1 (I.base.free b o e n hx)
  · obtain ⟨o', e1⟩ := I.base.there b o e hx
    exact there b o' (neC b o e hx) e1
  · obtain ⟨m1, e1⟩ := I.base.tbls b ps e
    obtain ⟨m2, e2⟩ := tbls b _ e1
    exact ⟨m1 ++ m2, by rw [e2, Array.append_assoc]⟩
  · obtain ⟨m, hn, hl⟩ := I.loc
    refine ⟨m, ns m hn, fun i x v e1 e2 e3 => ?_⟩
    obtain ⟨u, r, l⟩ := hl i x v e1 e2 e3
    refine ⟨u, r, ?_⟩
    rcases l with l | ⟨k, c, e, z⟩
    · exact .inl l
    · exact .inr ⟨k, c, e, cellK x c e _ z⟩
  · obtain ⟨v, z⟩ := I.cell x c e
    exact ⟨v, cellK x c e v z⟩
  · obtain ⟨m, ⟨o, _, _, ho, _⟩, _⟩ := I.loc
    exact free _ o (fun z => (hch _ z).2.1 rfl) ho I.free
  · obtain ⟨v, o, ho, hd⟩ := I.cell x c e
    exact free c o (fun z => (hch c z).2.2.1 x c e rfl) ho (I.freeC x c e)
  · obtain ⟨e, n, ne, nf, d⟩ := I.pin p hp
    have nch : p.1 ∉ ch := fun z => (hch p.1 z).2.2.2 p hp rfl
    exact ⟨keep p.1 p.2 ne nf nch e n, free p.1 p.2 nch e n, ne, nf, d⟩
theorem Inv.un {t' : Nat} (I : Inv X pins σ H s) (u : Un X.fs [] H H' s.heap h') (hok : HOk X.prog X.w H' h') : Inv X pins σ H' { s with heap := h', toks := t' } := by
  obtain ⟨m, ⟨o, es, ep, ho, r⟩, _⟩ := id I.loc
  obtain ⟨sl, hL⟩ := u.any ho I.free (by simp)
  exact I.step (g' := s.gens) (d' := s.drawn) (ch := []) (fun _ z => nomatch z) (fun b o _ hb _ e n => u.keep b o e n hb (by simp)) (fun b o _ hb _ e n => u.slot b o e n hb (by simp)) (fun b o _ e n => u.free b o e n (by simp)) (fun b o _ e => u.there b o e (by simp)) u.tups u.frzs u.tbls (fun m' hm => by
    obtain ⟨o', es', ep', ho', r'⟩ := hm
    rw [ho] at ho'; cases ho'
    exact ⟨_, es', ep', hL, r'⟩) hok I.bare
theorem Inv.call {g' : Array GenState} {t' : Nat} {d' : Drawn} {ch : List Addr} (I : Inv X pins σ H s) (u : Un (frs X.stack) ch H H' s.heap h') (hok : HOk X.prog X.w H' h') (hg : AllBare g')
    (hch : ∀ b ∈ ch, (b ∈ X.ex ∨ X.s₀.heap.objs.size ≤ b) ∧ b ≠ X.env.locals ∧ (∀ x c, X.env.cells.lookup x = some c → c ≠ b) ∧ ∀ p ∈ X.pn ++ pins, p.1 ≠ b) :
    Inv X pins σ H' { s with heap := h', gens := g', drawn := d', toks := t' } := by
  obtain ⟨m, ⟨o, es, ep, ho, r⟩, _⟩ := id I.loc
  obtain ⟨sl, hL⟩ := u.any ho I.free fun z => (hch _ z).2.1 rfl
  exact I.step (ch := ch) hch (fun b o hL hb hc e n => u.keep b o e n (fun z => (List.mem_cons.mp (I.stkSub b z)).elim hL hb) hc) (fun b o _ _ hc e n => u.any e n hc) (fun b o hc e n => u.free b o e n hc) (fun b o hc e => u.there b o e hc) u.tups u.frzs u.tbls (fun m' hm => by
    obtain ⟨o', es', ep', ho', r'⟩ := hm
    rw [ho] at ho'; cases ho'
    exact ⟨_, es', ep', hL, r'⟩) hok hg
theorem Inv.turned {t' : Nat} {it : Addr} (I : Inv X pins σ H s) (k : ∀ b o, b ≠ it → s.heap.get? b = some o → h'.get? b = some o) (hn : H it = none) (hL : it ≠ X.env.locals)
    (h1 : it ∈ X.ex ∨ X.s₀.heap.objs.size ≤ it) (h2 : ∀ x c, X.env.cells.lookup x = some c → c ≠ it) (h3 : ∀ p ∈ X.pn ++ pins, p.1 ≠ it) : Inv X pins σ H { s with heap := h', toks := t' } := by
  have nit : ∀ b u, H b = some u → b ≠ it := fun b u e z => by rw [z, hn] at e; cases e
  refine I.step (g' := s.gens) (d' := s.drawn) (ch := [it]) (fun b hb => ?_) (fun b o _ _ hc e _ => k b o (fun z => hc (by simp [z])) e) (fun b o _ _ hc e _ => ⟨o.slots, k b o (fun z => hc (by simp [z])) e⟩) (fun _ _ _ _ n => n)
    (fun b o hc e => ⟨o, k b o (fun z => hc (by simp [z])) e⟩) (fun _ _ e => e) (fun _ _ _ e => e) (fun b ps e => ⟨#[], by rw [e]; simp⟩) (fun m hm => ?_) (fun b u e => ?_) I.bare
  · have e : b = it := by simpa using hb
    subst e
    exact ⟨h1, hL, h2, h3⟩
  · obtain ⟨o, es, ep, ho, r⟩ := hm
    exact ⟨o, es, ep, k _ o (Ne.symm hL) ho, r⟩
  · refine (I.hok b u e).stay (fun c v hc q => k c v ?_ q) (fun _ q => q) fun _ _ q => q
    rcases hc with z | z
    · rw [z]; exact nit b u e
    · exact nit c _ z
theorem Inv.tok (I : Inv X pins σ H s) (t : Nat) : Inv X pins σ H { s with toks := t } := I.un (h' := s.heap) (t' := t) Un.refl I.hok
theorem Inv.kept {t' : Nat} (I : Inv X pins σ H s) (k : ∀ b u, s.heap.get? b = some u → h'.get? b = some u) : Inv X pins σ H { s with heap := h', toks := t' } := I.un (Un.kept k) (I.hok.kept k)
theorem Inv.laid {a : Addr} {o : HO} {t' : Nat} (I : Inv X pins σ H s) (k : ∀ b u, s.heap.get? b = some u → h'.get? b = some u) (hp : s.heap.objs.size ≤ a) (new : ObjOk X.prog X.w (upd H a o) h' a o) :
    Inv X pins σ (upd H a o) { s with heap := h', toks := t' } := I.un (Un.laid k hp (I.hok.fresh hp)) (I.hok.laid k hp new)
theorem Inv.write {x e : Addr} {o : HO} {t' : Nat} (I : Inv X pins σ H s) (mu : Mut (H x)) (he : e = x ∨ H e = some (.own x)) (k : ∀ b u, b ≠ e → s.heap.get? b = some u → h'.get? b = some u) (heo : ∃ u, h'.get? e = some u)
    (new : ObjOk X.prog X.w (upd H x o) h' x o) : Inv X pins σ (upd H x o) { s with heap := h', toks := t' } := I.un (Un.write mu he k heo) (I.hok.write mu he k heo new)
theorem Inv.pins_of {pins' : List (Addr × Obj)} (I : Inv X pins σ H s) (h : ∀ p ∈ pins', s.heap.get? p.1 = some p.2 ∧ H p.1 = none ∧ p.1 ≠ X.env.locals ∧ p.1 ∉ X.fs ∧ ∀ v, p.2.data ≠ .cell v) : Inv X pins' σ H s :=
  ⟨I.ok, I.os, I.bare, I.base, I.loc, I.cell, I.free, I.freeC, fun p hp => (List.mem_append.mp hp).elim (fun z => I.pin p (List.mem_append_left _ z)) (h p), I.hok, I.len⟩
theorem nodup_ix {N : List Str} (hN : N.Nodup) {i j : Nat} {x : Str} (a : N[i]? = some x) (b : N[j]? = some x) : i = j := by
  obtain ⟨h1, e1⟩ := List.getElem?_eq_some_iff.mp a
  obtain ⟨h2, e2⟩ := List.getElem?_eq_some_iff.mp b
  exact (List.getElem_inj hN).mp (e1.trans e2.symm)
theorem store_ok2 {M : Model} {A : Around} {E : Value → Shared → Prop} {i : Nat} {x : Str} {v : V} {u : Value} {Q : Unit → Shared → Prop} (I : Inv X pins σ H s) (hN : X.N.Nodup) (hi : X.N[i]? = some x) (hx : Loc X.env.scope x) (r : RelV v u)
    (h : ∀ s', Inv X pins (σ.set i (some v)) H s' → (∃ a, Heap.SameBut a s.heap s'.heap ∧ (a = X.env.locals ∨ X.env.cells.lookup x = some a)) → Q () s') (hf : X.fn x = true ∨ X.env.scope.names.lookup x = some .local := by first | exact .inl rfl | exact .inr rfl | assumption) : wpAny M A (storeName X.env x u) Q E s := by
  obtain ⟨m, hn, hl⟩ := id I.loc
  have hcls : (X.env.scope.kind == .class || (X.env.scope.kind == .module && X.env.locals != X.env.globals)) = false := by rw [I.ok.kind]; rfl
  have hiσ : i < σ.length := by rw [I.len]; exact (List.getElem?_eq_some_iff.mp hi).1
  have cne := I.cne
  have tracked : ∀ {a : Addr} {h' : Heap}, (∃ o, s.heap.get? a = some o ∧ H a = none) → Heap.SameBut a s.heap h' → HOk X.prog X.w H h' := fun {a h'} ha hs b ob e => by
    obtain ⟨_, _, hfree⟩ := ha
    refine (I.hok b ob e).stay (fun c w' hc q => (hs.2 c ?_).trans q) (fun _ q => q) fun _ _ q => q
    rintro rfl
    rcases hc with rfl | hc
    · rw [hfree] at e; cases e
    · rw [hfree] at hc; cases hc
  rcases hx with hk | hk
  · refine wpAny_storeName_local hk hn (fun h' hn' hs => ?_) hcls
    obtain ⟨oL, _, _, hoL, _⟩ := id hn
    refine h _ ⟨I.ok, I.os, I.bare, ⟨fun b o e n hb hx => ?_, fun b o e n hb hx => ?_, I.base.free, fun b o e hx => ?_, I.base.tups, I.base.frzs, I.base.tbls⟩, ⟨_, hn', fun j y v' e1 e2 e3 => ?_⟩, fun y c e => ?_, I.free, I.freeC, fun p hp => ?_, tracked ⟨oL, hoL, I.free⟩ hs, by simpa using I.len⟩ ⟨_, hs, .inl rfl⟩
    · exact (hs.2 b (Nat.ne_of_lt (Nat.lt_of_lt_of_le (Heap.lt_size e) I.ok.above))).trans (I.base.keep b o e n hb hx)
    · obtain ⟨sl, e1⟩ := I.base.slot b o e n hb hx
      exact ⟨sl, (hs.2 b (Nat.ne_of_lt (Nat.lt_of_lt_of_le (Heap.lt_size e) I.ok.above))).trans e1⟩
    · obtain ⟨o', e1⟩ := I.base.there b o e hx
      exact ⟨o', (hs.2 b (Nat.ne_of_lt (Nat.lt_of_lt_of_le (Heap.lt_size e) I.ok.above))).trans e1⟩
    · by_cases hj : j = i
      · subst hj
        rw [hi] at e1; cases e1
        rw [List.getElem?_set_self hiσ] at e2
        cases e2
        exact ⟨u, r, .inl ⟨hk, by simp⟩⟩
      · rw [List.getElem?_set_ne (Ne.symm hj)] at e2
        obtain ⟨u', r', q⟩ := hl j y v' e1 e2 e3
        refine ⟨u', r', ?_⟩
        rcases q with ⟨k, e⟩ | ⟨k, c, e, z⟩
        · refine .inl ⟨k, ?_⟩
          have : y ≠ x := fun e => hj (nodup_ix hN e1 (e ▸ hi))
          simp [this, e]
        · exact .inr ⟨k, c, e, z.sameBut hs (cne y c e)⟩
    · obtain ⟨w', z⟩ := I.cell y c e
      exact ⟨w', z.sameBut hs (cne y c e)⟩
    · obtain ⟨e, n, ne, nf, d⟩ := I.pin p hp
      exact ⟨(hs.2 p.1 ne).trans e, n, ne, nf, d⟩
  · have hfn : X.fn x = true := by
      rcases hf with z | z
      · exact z
      · rw [z] at hk; cases hk
    obtain ⟨c, hc⟩ := I.ok.has x (.inl hk)
    obtain ⟨w', z⟩ := I.cell x c hc
    refine wpAny_storeName_cell I.ok.kind hk hc z (fun h' hc' hs => ?_)
    obtain ⟨oc, hoc, hocd⟩ := id z
    refine h { s with heap := h' } ⟨I.ok, I.os, I.bare, ⟨fun b o e n hb hx => ?_, fun b o e n hb hx => ?_, I.base.free, fun b o e hx => ?_, I.base.tups, I.base.frzs, I.base.tbls⟩, ⟨m, hn.sameBut hs (Ne.symm (cne x c hc)), fun j y v' e1 e2 e3 => ?_⟩, fun y c' e => ?_, I.free, I.freeC, fun p hp => ?_, tracked ⟨oc, hoc, I.freeC x c hc⟩ hs, by simpa using I.len⟩ ⟨c, hs, .inr hc⟩
    · exact (hs.2 b (Nat.ne_of_lt (Nat.lt_of_lt_of_le (Heap.lt_size e) (I.ok.cab x c hfn hc)))).trans (I.base.keep b o e n hb hx)
    · obtain ⟨sl, e1⟩ := I.base.slot b o e n hb hx
      exact ⟨sl, (hs.2 b (Nat.ne_of_lt (Nat.lt_of_lt_of_le (Heap.lt_size e) (I.ok.cab x c hfn hc)))).trans e1⟩
    · obtain ⟨o', e1⟩ := I.base.there b o e hx
      exact ⟨o', (hs.2 b (Nat.ne_of_lt (Nat.lt_of_lt_of_le (Heap.lt_size e) (I.ok.cab x c hfn hc)))).trans e1⟩
    · by_cases hj : j = i
      · subst hj
        rw [hi] at e1; cases e1
        rw [List.getElem?_set_self hiσ] at e2
        cases e2
        exact ⟨u, r, .inr ⟨.inl hk, c, hc, hc'⟩⟩
      · rw [List.getElem?_set_ne (Ne.symm hj)] at e2
        obtain ⟨u', r', q⟩ := hl j y v' e1 e2 e3
        refine ⟨u', r', ?_⟩
        rcases q with q | ⟨k, c', e, z'⟩
        · exact .inl q
        · refine .inr ⟨k, c', e, z'.sameBut hs ?_⟩
          rintro rfl
          exact hj (nodup_ix hN e1 (I.ok.inj _ _ _ e hc ▸ hi))
    · by_cases hcc : c' = c
      · subst hcc; exact ⟨_, hc'⟩
      · obtain ⟨w2, z2⟩ := I.cell y c' e
        exact ⟨w2, z2.sameBut hs hcc⟩
    · obtain ⟨e, n, ne, nf, d⟩ := I.pin p hp
      refine ⟨(hs.2 p.1 ?_).trans e, n, ne, nf, d⟩
      intro q
      rw [q, hoc] at e
      have q' : oc = p.2 := Option.some.inj e
      exact d w' (by rw [← q']; exact hocd)
theorem store_ok {M : Model} {A : Around} {E : Value → Shared → Prop} {i : Nat} {x : Str} {v : V} {u : Value} {Q : Unit → Shared → Prop} (I : Inv X pins σ H s) (hN : X.N.Nodup) (hi : X.N[i]? = some x) (hx : Loc X.env.scope x) (r : RelV v u)
    (h : ∀ s', Inv X pins (σ.set i (some v)) H s' → Q () s') (hf : X.fn x = true ∨ X.env.scope.names.lookup x = some .local := by first | exact .inl rfl | exact .inr rfl | assumption) : wpAny M A (storeName X.env x u) Q E s :=
  store_ok2 I hN hi hx r (fun s' I' _ => h s' I') hf
end
abbrev XK := Value → Option Addr → Hp → Prop
abbrev St := List (Option V)
abbrev VK := V → Hp → Prop
abbrev TE := St → Hp → VK → Prop
abbrev TT := St → Hp → (Bool → Hp → Prop) → Prop
abbrev TA := St → Hp → (List V → Hp → Prop) → Prop
structure Ends where
  nx : St → Hp → Prop
  rt : VK
  bk : St → Hp → Prop := fun _ _ => False
  ct : St → Hp → Prop := fun _ _ => False
abbrev TS := Ends → St → Hp → Prop
def EP (X : Cx) (pins : List (Addr × Obj)) (σ : St) (Q : VK) (u : Value) (s' : Shared) : Prop := ∃ v H', Inv X pins σ H' s' ∧ RelV v u ∧ Q v H'
def TP (X : Cx) (pins : List (Addr × Obj)) (σ : St) (Q : Bool → Hp → Prop) (b : Bool) (s' : Shared) : Prop := ∃ H', Inv X pins σ H' s' ∧ Q b H'
def AP (X : Cx) (pins : List (Addr × Obj)) (σ : St) (Q : List V → Hp → Prop) (us : List Value) (s' : Shared) : Prop := ∃ vs H', Inv X pins σ H' s' ∧ Vals vs us ∧ Q vs H'
def SP (X : Cx) (pins : List (Addr × Obj)) (D : Ends) (f : Flow) (s' : Shared) : Prop :=
  match f with
  | .next => ∃ σ' H', Inv X pins σ' H' s' ∧ D.nx σ' H'
  | .brk => ∃ σ' H', Inv X pins σ' H' s' ∧ D.bk σ' H'
  | .cont => ∃ σ' H', Inv X pins σ' H' s' ∧ D.ct σ' H'
  | .ret u => ∃ v σ' H', Inv X pins σ' H' s' ∧ RelV v u ∧ D.rt v H'
def PE (X : Cx) (e : Expr) (t : TE) : Prop :=
  ∀ (pins : List (Addr × Obj)) (s : Shared) (σ : St) (H : Hp) (Q : VK), Inv X pins σ H s → t σ H Q → wpAny (model X.prog X.w) X.A (eval e X.env) (EP X pins σ Q) X.xe s
def PT (X : Cx) (e : Expr) (t : TT) : Prop :=
  ∀ (pins : List (Addr × Obj)) (s : Shared) (σ : St) (H : Hp) (Q : Bool → Hp → Prop), Inv X pins σ H s → t σ H Q → wpAny (model X.prog X.w) X.A (isTrue e X.env (eval e X.env)) (TP X pins σ Q) X.xe s
def PW (X : Cx) (e : Expr) (t : TT) : Prop :=
  ∀ (whole : Sem Value) (pins : List (Addr × Obj)) (s : Shared) (σ : St) (H : Hp) (Q : Bool → Hp → Prop), Inv X pins σ H s → t σ H Q → wpAny (model X.prog X.w) X.A (isTrue e X.env whole) (TP X pins σ Q) X.xe s
theorem PW.pt {X : Cx} {e : Expr} {t : TT} (h : PW X e t) : PT X e t := h _
def PA (X : Cx) (es : List Expr) (t : TA) : Prop :=
  ∀ (pos : Pos) (pins : List (Addr × Obj)) (s : Shared) (σ : St) (H : Hp) (Q : List V → Hp → Prop), Inv X pins σ H s → t σ H Q → wpAny (model X.prog X.w) X.A (spliced (backTo pos (starEach es X.env))) (AP X pins σ Q) X.xe s
def PS (X : Cx) (st : Stmt) (t : TS) : Prop :=
  ∀ (pins : List (Addr × Obj)) (s : Shared) (σ : St) (H : Hp) (D : Ends), Inv X pins σ H s → t D σ H → wpAny (model X.prog X.w) X.A (exec st X.env) (SP X pins D) X.xe s
def PSs (X : Cx) (st : List Stmt) (t : TS) : Prop :=
  ∀ (pins : List (Addr × Obj)) (s : Shared) (σ : St) (H : Hp) (D : Ends), Inv X pins σ H s → t D σ H → wpAny (model X.prog X.w) X.A (execs st X.env) (SP X pins D) X.xe s
theorem thn {α : Type} {t : Sem α} {Q Q' : α → Shared → Prop} {M : Model} {A : Around} {E : Value → Shared → Prop} {s : Shared} (h : wpAny M A t Q E s) (hQ : ∀ a s, Q a s → Q' a s) : wpAny M A t Q' E s := wpAny_mono h hQ fun _ _ x => x
end L2
namespace L2
open PySem PySem.Spec PyProof.Rows
section
variable {X : Cx}
theorem bin {a b : Expr} {ta tb : TE} (ha : PE X a ta) (hb : PE X b tb) {pins : List (Addr × Obj)} {s : Shared} {σ : St} {H : Hp} {R : V → V → Hp → Prop} (I : Inv X pins σ H s) (h : ta σ H fun x H1 => tb σ H1 fun y H2 => R x y H2)
    {α : Type} {Q : α → Shared → Prop} {f : Value → Value → Sem α}
    (hf : ∀ v u s2 x y H2, Inv X pins σ H2 s2 → RelV x v → RelV y u → R x y H2 → wpAny (model X.prog X.w) X.A (f v u) Q X.xe s2) :
    wpAny (model X.prog X.w) X.A (eval a X.env) (fun v s₁ => wpAny (model X.prog X.w) X.A (eval b X.env) (fun u s₂ => wpAny (model X.prog X.w) X.A (f v u) Q X.xe s₂) X.xe s₁) X.xe s := by
  refine thn (ha pins s σ H _ I h) fun v s1 ⟨x, H1, I1, r1, q1⟩ => ?_
  refine thn (hb pins s1 σ H1 _ I1 q1) fun u s2 ⟨y, H2, I2, r2, q2⟩ => ?_
  exact hf v u s2 x y H2 I2 r1 r2 q2
def tVar (i : Nat) : TE := fun σ H Q => ∃ v, σ[i]? = some (some v) ∧ Q v H
def tC (v : V) : TE := fun _ H Q => Q v H
theorem pe_var {i : Nat} {x : Str} {pos : Pos} (hN : X.N[i]? = some x) (hv : Vis X.env.scope x) (hd : (x == ("__debug__" : Str)) = false := by decide) (hcd : (x == ("__classdict__" : Str)) = false := by decide) : PE X (.Name x pos) (tVar i) := by
  intro pins s σ H Q I h
  obtain ⟨v, e, h⟩ := h
  obtain ⟨m, hn, hl⟩ := I.loc
  obtain ⟨u, r, l⟩ := hl i x v hN e hv
  have fin : EP X pins σ Q u s := ⟨v, H, I, r, h⟩
  rcases l with ⟨hk, hm⟩ | ⟨hk, c, hc, hcell⟩
  · exact wpAny_Name (wpAny_loadName_local I.ok.kind hk hn hm fin) hd
  · rcases hk with hk | hk
    · exact wpAny_Name (wpAny_loadName_cell I.ok.kind hk hc hcell fin) hd
    · exact wpAny_Name (wpAny_loadName_free I.ok.kind hk hc hcell fin hcd) hd
theorem pe_int {i j pos} : PE X (.Constant (.int i) j pos) (tC (.int i)) := fun _ _ _ H _ I h => wpAny_Constant_int ⟨.int i, H, I.tok _, ⟨_, rfl⟩, h⟩
theorem pe_bl {b j pos} : PE X (.Constant (.bool b) j pos) (tC (.bl b)) := fun _ _ _ H _ I h => Constant_bool ⟨.bl b, H, I, rfl, h⟩
def Gl (X : Cx) (x : Str) : Prop := X.env.kindOf x = some .globalImplicit
theorem ld_glob {E : Value → Shared → Prop} {pins : List (Addr × Obj)} {s : Shared} {σ : St} {H : Hp} {x : Str} {u : Value} {pos : Pos} {Q : Value → Shared → Prop} (I : Inv X pins σ H s) (hg : Gl X x) (hm : X.mg x = some u) (h : Q u s)
    (hd : (x == ("__debug__" : Str)) = false := by decide) : wpAny (model X.prog X.w) X.A (eval (.Name x pos) X.env) Q E s :=
  Calls.Name_function_global I.ok.kind hg (Calls.loadGlobal_global (by rw [I.ok.glob]; exact I.mod.glob.keeps I.bk) hm h) hd
theorem ld_blt {E : Value → Shared → Prop} {pins : List (Addr × Obj)} {s : Shared} {σ : St} {H : Hp} {x : Str} {u : Value} {pos : Pos} {Q : Value → Shared → Prop} (I : Inv X pins σ H s) (hg : Gl X x) (hm : X.mg x = none) (hv : bootBuiltins x = some u) (h : Q u s)
    (hn : x ≠ "__name__" := by decide) (hd : (x == ("__debug__" : Str)) = false := by decide) : wpAny (model X.prog X.w) X.A (eval (.Name x pos) X.env) Q E s := by
  obtain ⟨mb, h1, h2⟩ := I.mod.blt
  exact Calls.Name_function_global I.ok.kind hg (Calls.loadGlobal_builtin (by rw [I.ok.glob]; exact I.mod.glob.keeps I.bk) hm (by rw [I.ok.blt]; exact h1.keeps I.bk) ((h2 x hn).trans hv) h) hd
theorem pe_glob {x : Str} {v : V} {u : Value} {pos : Pos} (hg : Gl X x) (hm : X.mg x = some u) (r : RelV v u) (hd : (x == ("__debug__" : Str)) = false := by decide) : PE X (.Name x pos) (tC v) :=
  fun _ _ _ H _ I h => ld_glob I hg hm ⟨v, H, I, r, h⟩ hd
theorem pe_bltn {x : Str} {v : V} {u : Value} {pos : Pos} (hg : Gl X x) (hm : X.mg x = none) (hv : bootBuiltins x = some u) (r : RelV v u) (hn : x ≠ "__name__" := by decide) (hd : (x == ("__debug__" : Str)) = false := by decide) : PE X (.Name x pos) (tC v) :=
  fun _ _ _ H _ I h => ld_blt I hg hm hv ⟨v, H, I, r, h⟩ hn hd
variable {a b : Expr} {ta tb : TE} {pos : Pos}
def PC (X : Cx) (op : CmpOp) (a b : Expr) (t : TE) : Prop :=
  ∀ (pins : List (Addr × Obj)) (s : Shared) (σ : St) (H : Hp) (Q : VK), Inv X pins σ H s → t σ H Q →
    wpAny (model X.prog X.w) X.A (eval a X.env) (fun v s₁ => wpAny (model X.prog X.w) X.A (eval b X.env) (fun u s₂ => wpAny (model X.prog X.w) X.A (compareOp op v u) (EP X pins σ Q) X.xe s₂) X.xe s₁) X.xe s
theorem nobehind (b : Expr) {op : CmpOp} (h : op ≠ .In) (h2 : op ≠ .NotIn) : behindInMarks op b = false := by
  have e1 : (op == CmpOp.In) = false := by cases op <;> first | rfl | exact absurd rfl h
  have e2 : (op == CmpOp.NotIn) = false := by cases op <;> first | rfl | exact absurd rfl h2
  cases b <;> simp [behindInMarks, e1, e2]
def tB (t : TE) : TT := fun σ H Q => t σ H fun x H1 => ∃ c, x = .bl c ∧ Q c H1
theorem pt_cmp {op : CmpOp} {t : TE} (h : PC X op a b t) (h1 : behindInMarks op b = false := by first | exact nobehind _ (by decide) (by decide) | rfl) : PT X (.Compare a [op] [b] pos) (tB t) := by
  intro pins s σ H Q I hw
  refine wpAny_isTrue_Compare1 (thn (h pins s σ H _ I hw) fun v s1 h1 => thn h1 fun u s2 h2 => thn h2 fun c s3 ⟨x, H1, I1, r1, q1⟩ => ?_) h1
  obtain ⟨d, rfl, q⟩ := q1
  cases r1
  exact wpAny_truthy_bool ⟨H1, I1, q⟩
theorem pt_val {e : Expr} {t : TE} (h : PE X e t) (he : ∀ whole, isTrue e X.env whole = (do let v ← whole; standAt e.pos; holding [v] (truthy v)) := by intro _; rfl) : PT X e (tB t) := by
  intro pins s σ H Q I hw
  refine isTrue_plain (thn (h pins s σ H _ I hw) fun v s1 ⟨x, H1, I1, r1, q1⟩ => ?_) (he _)
  obtain ⟨d, rfl, q⟩ := q1
  cases r1
  exact wpAny_truthy_bool ⟨H1, I1, q⟩
variable {tA tB' : TT} {rest : List Expr}
def tAnd (t u : TT) : TT := fun σ H Q => t σ H fun c H1 => if c = true then u σ H1 Q else Q false H1
def tOr (t u : TT) : TT := fun σ H Q => t σ H fun c H1 => if c = true then Q true H1 else u σ H1 Q
def tNot (t : TT) : TT := fun σ H Q => t σ H fun c H1 => Q (!c) H1
theorem pw_and1 (ha : PT X a tA) : PW X (.BoolOp .And [a] pos) tA := by
  intro wh pins s σ H Q I h
  refine isTrue_and (thn (ha pins s σ H Q I h) fun c s1 e => ?_)
  cases c with
  | true => exact isTrue_and_nil e
  | false => exact e
theorem pw_or1 (ha : PT X a tA) : PW X (.BoolOp .Or [a] pos) tA := by
  intro wh pins s σ H Q I h
  refine isTrue_or (thn (ha pins s σ H Q I h) fun c s1 e => ?_)
  cases c with
  | false => exact isTrue_or_nil e
  | true => exact e
theorem pw_and (ha : PT X a tA) (hb : PW X (.BoolOp .And (b :: rest) pos) tB') : PW X (.BoolOp .And (a :: b :: rest) pos) (tAnd tA tB') := by
  intro wh pins s σ H Q I h
  refine isTrue_and (thn (ha pins s σ H _ I h) fun c s1 ⟨H1, I1, q1⟩ => ?_)
  cases c with
  | true => exact hb wh pins s1 σ H1 Q I1 q1
  | false => exact ⟨H1, I1, q1⟩
theorem pw_or (ha : PT X a tA) (hb : PW X (.BoolOp .Or (b :: rest) pos) tB') : PW X (.BoolOp .Or (a :: b :: rest) pos) (tOr tA tB') := by
  intro wh pins s σ H Q I h
  refine isTrue_or (thn (ha pins s σ H _ I h) fun c s1 ⟨H1, I1, q1⟩ => ?_)
  cases c with
  | true => exact ⟨H1, I1, q1⟩
  | false => exact hb wh pins s1 σ H1 Q I1 q1
theorem pt_not (ha : PT X a tA) : PT X (.UnaryOp .Not a pos) (tNot tA) := by
  intro pins s σ H Q I h
  exact isTrue_not (ha pins s σ H (fun c H1 => Q (!c) H1) I h)
def tAndV (ta tb : TE) : TE := fun σ H Q => ta σ H fun x H1 => ∃ c, x = .bl c ∧ if c = true then tb σ H1 Q else Q (.bl false) H1
def tNotV (ta : TE) : TE := fun σ H Q => ta σ H fun x H1 => ∃ c, x = .bl c ∧ Q (.bl (!c)) H1
theorem pe_one {op} {t : TE} (h : PE X a t) : PE X (.BoolOp op [a] pos) t := fun pins s σ H Q I hw => BoolOp_one (h pins s σ H Q I hw)
theorem pe_and (ha : PE X a ta) (hb : PE X (.BoolOp .And (b :: rest) pos) tb) : PE X (.BoolOp .And (a :: b :: rest) pos) (tAndV ta tb) := by
  intro pins s σ H Q I h
  refine BoolOp_and (thn (ha pins s σ H _ I h) fun v s1 ⟨x, H1, I1, r1, q1⟩ => ?_)
  obtain ⟨c, rfl, q1⟩ := q1
  cases r1
  refine wpAny_truthy_bool ?_
  cases c with
  | true => exact hb pins s1 σ H1 Q I1 q1
  | false => exact ⟨.bl false, H1, I1, rfl, q1⟩
theorem pe_not (ha : PE X a ta) : PE X (.UnaryOp .Not a pos) (tNotV ta) := by
  intro pins s σ H Q I h
  refine UnaryOp_ (thn (ha pins s σ H _ I h) fun v s1 ⟨x, H1, I1, r1, q1⟩ => ?_)
  obtain ⟨c, rfl, q1⟩ := q1
  cases r1
  exact not_of (wpAny_truthy_bool ⟨.bl (!c), H1, I1, rfl, q1⟩)
end
end L2
namespace L2
open PySem PySem.Spec PyProof.Rows
def SqL (K : PySem.W.Frag) (H : Hp) (a : Addr) (xs : List V) : Prop :=
  Rd H a (.lst xs) ∨
    ∃ (o : Obj) (its : Array Value) (n : Nat), K.lookup a = some o ∧ o.cls = .type "list" ∧ o.dict = none ∧ o.data = .seq its n ∧ its.size ≤ sizeLine ∧ Vals xs its.toList
def SqT (K : PySem.W.Frag) (H : Hp) (a : Addr) (xs : List V) : Prop :=
  Rd H a (.tup xs) ∨
    ∃ (o : Obj) (its : Array Value) (n : Nat), K.lookup a = some o ∧ o.cls = .type "tuple" ∧ o.data = .seq its n ∧ its.size ≤ sizeLine ∧ Vals xs its.toList
def absV : Value → Option V
  | .none => some .non
  | .bool b => some (.bl b)
  | .int i _ => some (.int i)
  | .str x _ => some (.str x)
  | .bytes b _ => some (.byt b)
  | .float b _ => some (.flt b)
  | .ref a => some (.ref a)
  | .type n => some (.ty n)
  | _ => none
theorem RelV.abs {x : V} {u : Value} (r : RelV x u) : absV u = some x := by
  cases x with
  | non => cases r; rfl
  | bl _ => cases r; rfl
  | int _ => obtain ⟨t, rfl⟩ := r; rfl
  | str _ => obtain ⟨t, rfl⟩ := r; rfl
  | byt _ => obtain ⟨t, rfl⟩ := r; rfl
  | flt _ => obtain ⟨t, rfl⟩ := r; rfl
  | ref _ => cases r; rfl
  | ty _ => cases r; rfl
theorem RelV.inj {x y : V} {u : Value} (r : RelV x u) (q : RelV y u) : x = y := Option.some.inj (r.abs.symm.trans q.abs)
theorem Vals.inj : ∀ {xs ys : List V} {us : List Value}, Vals xs us → Vals ys us → xs = ys
  | _, _, _, .nil, .nil => rfl
  | _, _, _, .cons r t, .cons r' t' => by rw [r.inj r', Vals.inj t t']
section
variable {X : Cx} {pins : List (Addr × Obj)} {σ : St} {H : Hp} {s : Shared} {a : Addr} {xs ys : List V}
theorem SqL.of {K : PySem.W.Frag} (h : H a = some (.lst xs)) : SqL K H a xs := .inl (.inl h)
theorem SqT.of {K : PySem.W.Frag} (h : H a = some (.tup xs)) : SqT K H a xs := .inl (.inl h)
theorem Inv.list (I : Inv X pins σ H s) (h : SqL X.K H a xs) : ∃ its : List Value, Vals xs its ∧ PlainL s.heap a its.toArray ∧ xs.length ≤ sizeLine := by
  rcases h with h | ⟨o, its, n, hk, hc, hd, hs, hz, r⟩
  · obtain ⟨z, its, n, r, e⟩ := h.ok I.hok
    exact ⟨its, r, ⟨_, n, e, rfl, rfl, rfl⟩, z⟩
  · refine ⟨its.toList, r, ⟨o, n, I.kIn a o hk, hc, hd, by simpa using hs⟩, ?_⟩
    have e := r.length
    simp only [Array.length_toList] at e
    omega
theorem Inv.tuple (I : Inv X pins σ H s) (h : SqT X.K H a xs) : ∃ its : List Value, Vals xs its ∧ IsTup s.heap a its.toArray ∧ xs.length ≤ sizeLine := by
  rcases h with h | ⟨o, its, n, hk, hc, hs, hz, r⟩
  · obtain ⟨z, its, r, p⟩ := h.ok I.hok
    exact ⟨its, r, p, z⟩
  · refine ⟨its.toList, r, ⟨o, I.kIn a o hk, hc, n, by simpa using hs⟩, ?_⟩
    have e := r.length
    simp only [Array.length_toList] at e
    omega
theorem Inv.list_inj (I : Inv X pins σ H s) (h : SqL X.K H a xs) (h' : SqL X.K H a ys) : xs = ys := by
  obtain ⟨its, r, ⟨o, n, e, _, _, d⟩, _⟩ := I.list h
  obtain ⟨its', r', ⟨o', n', e', _, _, d'⟩, _⟩ := I.list h'
  rw [e] at e'; cases e'
  rw [d] at d'
  injection d' with d1 _
  have : its = its' := by simpa using congrArg Array.toList d1
  subst this
  exact r.inj r'
theorem Inv.tuple_inj (I : Inv X pins σ H s) (h : SqT X.K H a xs) (h' : SqT X.K H a ys) : xs = ys := by
  obtain ⟨its, r, ⟨o, e, _, n, d⟩, _⟩ := I.tuple h
  obtain ⟨its', r', ⟨o', e', _, n', d'⟩, _⟩ := I.tuple h'
  rw [e] at e'; cases e'
  rw [d] at d'
  injection d' with d1 _
  have : its = its' := by simpa using congrArg Array.toList d1
  subst this
  exact r.inj r'
end
abbrev Cx.wish (X : Cx) (E : Value → Shared → Prop) : Cx := { X with xe := E }
abbrev Cx.nox (X : Cx) : Cx := X.wish fun _ _ => False
theorem Cx.Ok.wish {X : Cx} (ok : X.Ok) (E : Value → Shared → Prop) : (X.wish E).Ok :=
  ⟨ok.mod, ok.kind, ok.glob, ok.blt, ok.above, ok.inj, ok.has, ok.cab, ok.hd, ok.frames, ok.stk, ok.exf, ok.bs, ok.bsz, ok.noex, ok.exfs, ok.funs, ok.frf⟩
theorem Cx.Ok.unwish {X : Cx} {E : Value → Shared → Prop} (ok : (X.wish E).Ok) : X.Ok :=
  ⟨ok.mod, ok.kind, ok.glob, ok.blt, ok.above, ok.inj, ok.has, ok.cab, ok.hd, ok.frames, ok.stk, ok.exf, ok.bs, ok.bsz, ok.noex, ok.exfs, ok.funs, ok.frf⟩
section
variable {X : Cx} {pins : List (Addr × Obj)} {σ : St} {H : Hp} {s : Shared} {E : Value → Shared → Prop}
theorem Inv.wish (I : Inv X pins σ H s) (E : Value → Shared → Prop) : Inv (X.wish E) pins σ H s := ⟨I.ok.wish E, I.os, I.bare, I.base, I.loc, I.cell, I.free, I.freeC, I.pin, I.hok, I.len⟩
theorem Inv.unwish (I : Inv (X.wish E) pins σ H s) : Inv X pins σ H s := ⟨I.ok.unwish, I.os, I.bare, I.base, I.loc, I.cell, I.free, I.freeC, I.pin, I.hok, I.len⟩
theorem SP.unwish {D : Ends} {f : Flow} {s' : Shared} (h : SP (X.wish E) pins D f s') : SP X pins D f s' := by
  cases f with
  | next => obtain ⟨σ', H', I, q⟩ := h; exact ⟨σ', H', I.unwish, q⟩
  | brk => obtain ⟨σ', H', I, q⟩ := h; exact ⟨σ', H', I.unwish, q⟩
  | cont => obtain ⟨σ', H', I, q⟩ := h; exact ⟨σ', H', I.unwish, q⟩
  | ret u => obtain ⟨v, σ', H', I, r, q⟩ := h; exact ⟨v, σ', H', I.unwish, r, q⟩
theorem PSs.nox {st : List Stmt} {t : TS} (h : PSs X.nox st t) : PSs X st t := fun pins s σ H D I hw =>
  wpAny_mono (h pins s σ H D (I.wish _) hw) (fun _ _ q => q.unwish) fun _ _ z => False.elim z
end
section
variable {X : Cx} {st : Stmt} {rest : List Stmt} {t u : TS} {e : Expr} {te : TE} {pos : Pos}
def tNext : TS := fun D σ H => D.nx σ H
def tSeq (t u : TS) : TS := fun D σ H => t { D with nx := u D } σ H
theorem pss_nil : PSs X [] tNext := fun _ _ σ H _ I h => wpAny_execs_nil ⟨σ, H, I, h⟩
theorem pss_cons (h1 : PS X st t) (h2 : PSs X rest u) : PSs X (st :: rest) (tSeq t u) := by
  intro pins s σ H D I h
  refine wpAny_execs_cons (thn (h1 pins s σ H { D with nx := u D } I h) fun f s1 q => ?_)
  cases f with
  | next =>
    obtain ⟨σ', H', I', q⟩ := q
    exact h2 pins s1 σ' H' D I' q
  | ret v => exact q
  | brk => exact q
  | cont => exact q
theorem pss_one (h1 : PS X st t) : PSs X [st] t := by
  intro pins s σ H D I h
  refine wpAny_execs_cons (thn (h1 pins s σ H D I h) fun f s1 q => ?_)
  cases f with
  | next => exact wpAny_execs_nil q
  | ret v => exact q
  | brk => exact q
  | cont => exact q
theorem Inv.quiet {pins : List (Addr × Obj)} {σ : St} {H : Hp} {s : Shared} (I : Inv X pins σ H s) : interactive X.env = false := by simp [interactive, I.ok.kind]
def tDrop (te : TE) : TS := fun D σ H => te σ H fun _ H1 => D.nx σ H1
theorem ps_expr (he : PE X e te) (hs : swapsWith e none pos.line X.env = pure false := by rfl) : PS X (.Expr e pos) (tDrop te) := by
  intro pins s σ H D I h
  exact wpAny_Expr_any (thn (he pins s σ H _ I h) fun v s1 ⟨x, H1, I1, r1, q1⟩ => ⟨σ, H1, I1, q1⟩) I.quiet hs
def tRet (te : TE) : TS := fun D σ H => te σ H D.rt
theorem ps_ret (he : PE X e te) : PS X (.Return (some e) pos) (tRet te) := by
  intro pins s σ H D I h
  exact wpAny_Return_some (thn (he pins s σ H _ I h) fun v s1 ⟨x, H1, I1, r1, q1⟩ => ⟨x, σ, H1, I1, r1, q1⟩)
def tIfS (c : TT) (t u : TS) : TS := fun D σ H => c σ H fun b H1 => if b = true then t D σ H1 else u D σ H1
theorem ps_if {c : Expr} {a b : List Stmt} {tc : TT} (hc : PT X c tc) (ha : PSs X a t) (hb : PSs X b u) : PS X (.If c a b pos) (tIfS tc t u) := by
  intro pins s σ H D I h
  refine wpAny_If (thn (hc pins s σ H _ I h) fun d s1 ⟨H1, I1, q1⟩ => ?_)
  cases d with
  | true => exact ha pins s1 σ H1 D I1 q1
  | false => exact hb pins s1 σ H1 D I1 q1
def tNever : TS := fun _ _ _ => False
theorem ps_never : PS X st tNever := fun _ _ _ _ _ _ h => h.elim
end
abbrev TG := V → St → Hp → (St → Hp → Prop) → Prop
abbrev TGs := List V → St → Hp → (St → Hp → Prop) → Prop
def PG (X : Cx) (target : Expr) (t : TG) : Prop :=
  ∀ (pins : List (Addr × Obj)) (s : Shared) (σ : St) (H : Hp) (v : V) (u : Value) (Q : St → Hp → Prop), Inv X pins σ H s → RelV v u → t v σ H Q →
    wpAny (model X.prog X.w) X.A (assign target X.env u) (fun _ s' => ∃ σ' H', Inv X pins σ' H' s' ∧ Q σ' H') X.xe s
def PGs (X : Cx) (ts : List Expr) (t : TGs) : Prop :=
  ∀ (pins : List (Addr × Obj)) (s : Shared) (σ : St) (H : Hp) (vs : List V) (us : List Value) (Q : St → Hp → Prop), Inv X pins σ H s → Vals vs us → t vs σ H Q →
    wpAny (model X.prog X.w) X.A (assignInOrder ((assignEach ts X.env).map (·.2)) us) (fun _ s' => ∃ σ' H', Inv X pins σ' H' s' ∧ Q σ' H') X.xe s
abbrev TSet := V → V → V → Hp → (Hp → Prop) → Prop
def PSet (X : Cx) (t : TSet) : Prop :=
  ∀ (pins : List (Addr × Obj)) (s : Shared) (σ : St) (H : Hp) (o i v : V) (ov iv u : Value) (Q : Hp → Prop), Inv X pins σ H s → RelV o ov → RelV i iv → RelV v u → t o i v H Q →
    wpAny (model X.prog X.w) X.A (setItem ov iv u) (fun _ s' => ∃ H', Inv X pins σ H' s' ∧ Q H') X.xe s
section
variable {X : Cx} {pos : Pos}
def gName (i : Nat) : TG := fun v σ H Q => Q (σ.set i (some v)) H
theorem pg_name {i : Nat} {x : Str} (hN : X.N.Nodup) (hi : X.N[i]? = some x) (hx : Loc X.env.scope x) (hf : X.fn x = true ∨ X.env.scope.names.lookup x = some .local := by first | exact .inl rfl | exact .inr rfl | assumption) : PG X (.Name x pos) (gName i) := by
  intro pins s σ H v u Q I r h
  exact wpAny_assign_Name (store_ok I hN hi hx r (fun s' I' => ⟨_, H, I', h⟩) hf)
def gNil : TGs := fun vs σ H Q => vs = [] ∧ Q σ H
def gCons (t : TG) (u : TGs) : TGs := fun vs σ H Q => ∃ v r, vs = v :: r ∧ t v σ H fun σ' H' => u r σ' H' Q
theorem pgs_nil : PGs X [] gNil := by
  intro pins s σ H vs us Q I r h
  obtain ⟨e, h⟩ := h
  subst e
  cases r
  exact assignInOrder_nil ⟨σ, H, I, h⟩
theorem pgs_cons {e : Expr} {es : List Expr} {t : TG} {u : TGs} (h1 : PG X e t) (h2 : PGs X es u)
    (hs : (assignEach (e :: es) X.env).map (·.2) = assign e X.env :: (assignEach es X.env).map (·.2) := by rfl) : PGs X (e :: es) (gCons t u) := by
  intro pins s σ H vs us Q I r h
  obtain ⟨v, vr, e1, h⟩ := h
  subst e1
  cases r with
  | cons r rr =>
    rw [hs]
    refine assignInOrder_cons (thn (h1 pins s σ H _ _ _ I r h) fun _ s1 ⟨σ1, H1, I1, q1⟩ => ?_)
    exact h2 pins s1 σ1 H1 _ _ Q I1 rr q1
def gTup (K : PySem.W.Frag) (n : Nat) (t : TGs) : TG := fun v σ H Q => ∃ a xs, v = .ref a ∧ SqT K H a xs ∧ xs.length = n ∧ t xs σ H Q
theorem pg_tup {es : List Expr} {k : Nat} {t : TGs} {n : Nat} (hc : X.calm = true) (h : PGs X es t)
    (hn : (assignEach es X.env).length = n := by rfl) (hst : (assignEach es X.env).findIdx? (·.1) = none := by rfl) : PG X (.Tuple es k pos) (gTup X.K n t) := by
  intro pins s σ H v u Q I r hw
  obtain ⟨a, xs, e1, hq, hl, hw⟩ := hw
  subst e1
  cases r
  obtain ⟨its, rv, ht, hz⟩ := I.tuple hq
  refine assign_Tuple_tuple (I.ok.hd hc) ht (by simp [hn, ← hl, rv.length]) hst fun h' hx => ?_
  have I1 : Inv X pins σ H { s with heap := h' } := I.kept (t' := s.toks) fun b o e => hx b o (Nat.ne_of_lt (Heap.lt_size e)) e
  exact h pins _ σ H xs _ Q I1 (by simpa using rv) hw
def gSub (to ti : TE) (t : TSet) : TG := fun v σ H Q => to σ H fun o H1 => ti σ H1 fun i H2 => t o i v H2 fun H3 => Q σ H3
theorem pg_sub {o i : Expr} {to ti : TE} {t : TSet} (ho : PE X o to) (hi : PE X i ti) (hs : PSet X t)
    (ha : ∀ v, assign (.Subscript o i pos) X.env v = (do
      let ov ← holding [v] (eval o X.env)
      let iv ← holding [v, ov] (eval i X.env)
      standAt pos
      holding [v, ov, iv] (setItem ov iv v)
      release [v, ov, iv] []) := by intro _; rfl) : PG X (.Subscript o i pos) (gSub to ti t) := by
  intro pins s σ H v u Q I r h
  rw [ha]
  refine wpAny_bind (wpAny_holding (thn (ho pins s σ H _ I h) fun ov s1 ⟨x, H1, I1, r1, q1⟩ => ?_))
  refine wpAny_bind (wpAny_holding (thn (hi pins s1 σ H1 _ I1 q1) fun iv s2 ⟨y, H2, I2, r2, q2⟩ => ?_))
  refine wpAny_bind (wpAny_standAt (wpAny_bind (wpAny_holding (thn (hs pins s2 σ H2 x y v ov iv u _ I2 r1 r2 r q2) fun _ s3 ⟨H3, I3, q3⟩ => ?_))))
  exact wpAny_release ⟨σ, H3, I3, q3⟩
def tAsg (te : TE) (g : TG) : TS := fun D σ H => te σ H fun x H1 => g x σ H1 D.nx
theorem ps_asg {tg e : Expr} {te : TE} {g : TG} (he : PE X e te) (hg : PG X tg g) (hs : swapsWithSole [tg] e pos.line X.env = pure false := by rfl) (hw : swappedStores [tg] e X.env = pure none := by rfl)
    (h1 : (assignEach [tg] X.env).map (·.2) = [assign tg X.env] := by rfl) : PS X (.Assign [tg] e pos) (tAsg te g) := by
  intro pins s σ H D I h
  refine wpAny_Assign_stores (thn (he pins s σ H _ I h) fun v s1 ⟨x, H1, I1, r1, q1⟩ => ?_) hs hw
  rw [h1]
  exact thn (hg pins s1 σ H1 x v _ I1 r1 q1) fun _ s2 q => q
theorem ps_set {i : Nat} {x : Str} {e : Expr} {te : TE} {pos' : Pos} (hN : X.N.Nodup) (hi : X.N[i]? = some x) (hx : Loc X.env.scope x) (he : PE X e te) (hs : swapsWith e (some (.Name x pos')) pos.line X.env = pure false := by rfl) (hf : X.fn x = true ∨ X.env.scope.names.lookup x = some .local := by first | exact .inl rfl | exact .inr rfl | assumption) :
    PS X (.Assign [.Name x pos'] e pos) (tAsg te (gName i)) := by
  intro pins s σ H D I h
  refine wpAny_Assign_Name (thn (he pins s σ H _ I h) fun v s1 ⟨y, H1, I1, r1, q1⟩ => ?_) hs
  exact store_ok I1 hN hi hx r1 (fun s2 I2 => ⟨_, H1, I2, q1⟩) hf
def tPar (i j : Nat) (ta : TA) : TS := fun D σ H => ta σ H fun vs H1 => ∃ v w, vs = [v, w] ∧ D.nx ((σ.set i (some v)).set j (some w)) H1
theorem ps_par {i j : Nat} {x y : Str} {a b : Expr} {ta : TA} {px py pt : Pos} {kt k2 pt2} (hc : X.calm = true) (hN : X.N.Nodup) (hi : X.N[i]? = some x) (hj : X.N[j]? = some y) (hij : i ≠ j)
    (hx : X.env.scope.names.lookup x = some .local) (hy : X.env.scope.names.lookup y = some .local) (ha : PA X [a, b] ta)
    (hw : swappedStores [.Tuple [.Name x px, .Name y py] kt pt] (.Tuple [a, b] k2 pt2) X.env = pure (some [x, y]))
    (hs : swapsWithSole [.Tuple [.Name x px, .Name y py] kt pt] (.Tuple [a, b] k2 pt2) pos.line X.env = pure false := by rfl) :
    PS X (.Assign [.Tuple [.Name x px, .Name y py] kt pt] (.Tuple [a, b] k2 pt2) pos) (tPar i j ta) := by
  intro pins s σ H D I h
  rw [exec_Assign_arm]
  refine wpAny_bind (wpAny_standAt ?_)
  rw [hs]
  refine wpAny_bind (wpAny_pure ?_)
  rw [if_neg (by decide)]
  refine wpAny_bind (Tuple_ (thn (ha _ pins s σ H _ I h) fun us s1 ⟨vs, H1, I1, r1, q1⟩ => ?_))
  obtain ⟨v, w, e1, q1⟩ := q1
  subst e1
  obtain ⟨u1, u2, rfl, rv, rw'⟩ : ∃ u1 u2, us = [u1, u2] ∧ RelV v u1 ∧ RelV w u2 := by
    cases r1 with
    | cons p q =>
      cases q with
      | cons p' q' =>
        cases q'
        exact ⟨_, _, rfl, p, p'⟩
  refine wpAny_newObj_type ?_ (by show 2 ≤ sizeLine; decide)
  have I2 : Inv X pins σ H1 { s1 with heap := s1.heap.push { cls := .type "tuple", data := .seq [u1, u2].toArray } } := I1.kept (t' := s1.toks) fun b o e => Heap.get?_push_of_some _ e
  rw [hw]
  refine wpAny_bind (wpAny_pure ?_)
  show wpAny (model X.prog X.w) X.A (do rule "assign.swapped-stores"; let items ← unpackItems (.ref s1.heap.objs.size) 2 none; assignInOrder [fun v => bindName X.env y v, fun v => bindName X.env x v] items.reverse; pure Flow.next) _ _ _
  refine wpAny_bind (wpAny_rule (wpAny_bind (unpackItems_tuple (items := #[u1, u2]) (I.ok.hd hc) (IsTup.new s1.heap _) fun h' hx' => ?_)))
  have I3 := I2.kept (h' := h') (t' := s1.toks) fun b o e => hx' b o (Nat.ne_of_lt (Heap.lt_size e)) e
  show wpAny _ _ (assignInOrder [fun v => bindName X.env y v, fun v => bindName X.env x v] [u2, u1] >>= fun _ => pure Flow.next) _ _ _
  refine wpAny_bind (assignInOrder_cons (wpAny_bindName (store_ok I3 hN hj (.inl hy) rw' (fun s2 I4 => ?_) (.inr hy))))
  refine assignInOrder_cons (wpAny_bindName (store_ok I4 hN hi (.inl hx) rv (fun s3 I5 => assignInOrder_nil (wpAny_pure ?_)) (.inr hx)))
  rw [List.set_comm _ _ (Ne.symm hij)] at I5
  exact ⟨_, H1, I5, q1⟩
end
section
variable {X : Cx} {pos : Pos}
def tWhile (c : TT) (tb : TS) : TS := fun D σ H => ∃ W : Nat → St → Hp → Prop, (∃ m, W m σ H) ∧ ∀ m σ H, W m σ H →
  c σ H fun b H1 => if b = true then ∃ N : St → Hp → Prop, (∀ σ' H', N σ' H' → ∃ m', m' < m ∧ W m' σ' H') ∧ tb { D with nx := N, ct := N, bk := D.nx } σ H1 else D.nx σ H1
theorem ps_while {c : Expr} {body : List Stmt} {tc : TT} {tb : TS} (hp : PassesOwn (model X.prog X.w) X.A X.env X.xe) (hc : PT X c tc) (hb : PSs X body tb) : PS X (.While c body [] pos) (tWhile tc tb) := by
  intro pins s σ H D I h
  obtain ⟨W, ⟨m0, w0⟩, turn⟩ := h
  refine wpAny_While (codeAny_whileLoop (fun n s' => ∃ σ' H', Inv X pins σ' H' s' ∧ W n σ' H') ?_ m0 ⟨σ, H, I, w0⟩)
  rintro n s1 ⟨σ1, H1, I1, w1⟩
  refine wpAny_passesOwn hp (thn (hc pins s1 σ1 H1 _ I1 (turn n σ1 H1 w1)) fun b s2 ⟨H2, I2, q2⟩ => ?_)
  cases b with
  | true =>
    obtain ⟨N, hN, q2⟩ := q2
    rw [if_pos rfl]
    refine wpAny_passesOwn hp (thn (hb pins s2 σ1 H2 _ I2 q2) fun f s3 q3 => ?_)
    cases f with
    | next =>
      obtain ⟨σ3, H3, I3, n3⟩ := q3
      obtain ⟨m', hm, w3⟩ := hN σ3 H3 n3
      exact ⟨m', hm, σ3, H3, I3, w3⟩
    | cont =>
      obtain ⟨σ3, H3, I3, n3⟩ := q3
      obtain ⟨m', hm, w3⟩ := hN σ3 H3 n3
      exact ⟨m', hm, σ3, H3, I3, w3⟩
    | brk => exact q3
    | ret v => exact q3
  | false =>
    rw [if_neg Bool.false_ne_true]
    exact wpAny_execs_nil ⟨σ1, H2, I2, q2⟩
end
structure It where
  go : Nat → Hp → Prop
  yld : Nat → Hp → V → Hp → Prop
  stop : Nat → Hp → Prop
def FpOk (X : Cx) (pins : List (Addr × Obj)) (H : Hp) (b : Addr) : Prop :=
  H b = none ∧ b ≠ X.env.locals ∧ b ∉ X.fs ∧ (b ∈ X.ex ∨ X.s₀.heap.objs.size ≤ b) ∧ (∀ x c, X.env.cells.lookup x = some c → c ≠ b) ∧ ∀ p ∈ X.pn ++ pins, p.1 ≠ b
theorem Inv.fpOk {X : Cx} {pins : List (Addr × Obj)} {σ : St} {H H' : Hp} {s : Shared} {b : Addr} (I : Inv X pins σ H s) (hb : s.heap.objs.size ≤ b) (hn : H' b = none) : FpOk X pins H' b := by
  refine ⟨hn, Nat.ne_of_gt (Nat.lt_of_lt_of_le I.lt hb), I.nofs hb, .inr (Nat.le_trans I.sz hb), fun x c e z => ?_, fun p hp z => ?_⟩
  · obtain ⟨v, q⟩ := I.cell x c e
    exact absurd (Nat.lt_of_lt_of_le q.lt (by rw [z]; exact hb)) (Nat.lt_irrefl _)
  · exact absurd (Nat.lt_of_lt_of_le (Heap.lt_size (I.pin p hp).1) (by rw [z]; exact hb)) (Nat.lt_irrefl _)
structure Turn (P : Program) (w : World) (K : PySem.W.Frag) (tg : Expr) (J : It) (fp : List Addr) (it : Addr) (tn : Nat → Heap → Prop) : Prop where
  mem : it ∈ fp
  obj : ∀ i h, tn i h → ∀ b ∈ fp, ∃ o, h.get? b = some o ∧ ∀ v, o.data ≠ .cell v
  keep : ∀ i h h', tn i h → (∀ b ∈ fp, ∀ o, h.get? b = some o → h'.get? b = some o) → tn i h'
  item : ∀ (X : Cx), X.prog = P → X.w = w → X.K = K → X.calm = true → ∀ (i : Nat) (pins : List (Addr × Obj)) (s : Shared) (σ : St) (H : Hp) (E : Value → Shared → Prop), Inv X pins σ H s → (∀ b ∈ fp, FpOk X pins H b) → tn i s.heap → J.go i H →
    wpAny (model P w) X.A (pyNext (.ref it)) (fun r s1 => ∃ u, r = some u ∧
      wpAny (model P w) X.A (letOwnedTupleGo tg (.ref it) u) (fun _ s2 => ∃ x H', Inv X pins σ H' s2 ∧ RelV x u ∧ J.yld i H x H' ∧ tn (i + 1) s2.heap ∧ ∀ b ∈ fp, H' b = none) E s1) E s
  done : ∀ (X : Cx), X.prog = P → X.w = w → X.K = K → X.calm = true → ∀ (i : Nat) (pins : List (Addr × Obj)) (s : Shared) (σ : St) (H : Hp) (E : Value → Shared → Prop), Inv X pins σ H s → (∀ b ∈ fp, FpOk X pins H b) → tn i s.heap → J.stop i H →
    wpAny (model P w) X.A (pyNext (.ref it)) (fun r s1 => r = none ∧ Inv X pins σ H s1) E s
  self : ∀ (A : Around) (i : Nat) (s : Shared) (Q : Value → Shared → Prop) (E : Value → Shared → Prop), tn i s.heap → Q (.ref it) s → wpAny (model P w) A (pyIter (.ref it)) Q E s
abbrev TI := St → Hp → (It → Hp → Prop) → Prop
def PIE (X : Cx) (pins : List (Addr × Obj)) (σ : St) (tg : Expr) (R : It → Hp → Prop) (itv : Value) (s2 : Shared) : Prop :=
  ∃ (it : Addr) (fp : List Addr) (tn : Nat → Heap → Prop) (J : It) (H' : Hp), itv = .ref it ∧ Inv X pins σ H' s2 ∧ Turn X.prog X.w X.K tg J fp it tn ∧ tn 0 s2.heap ∧ (∀ b ∈ fp, FpOk X pins H' b) ∧ R J H'
def PI (X : Cx) (tg iter : Expr) (wi : TI) : Prop :=
  ∀ (pins : List (Addr × Obj)) (s : Shared) (σ : St) (H : Hp) (R : It → Hp → Prop), Inv X pins σ H s → wi σ H R →
    wpAny (model X.prog X.w) X.A (eval iter X.env) (fun v s1 => wpAny (model X.prog X.w) X.A (pyIter v) (PIE X pins σ tg R) X.xe s1) X.xe s
theorem go_of {M : Model} {A : Around} {E : Value → Shared → Prop} {s : Shared} {tg : Expr} {it : Addr} {u : Value} {o : Obj} {n : String} {vs : Array Value} {Q : Unit → Shared → Prop} (ho : s.heap.get? it = some o) (hc : o.cls = .type n) (hd : o.data = .fields vs)
    (hn : ["enumerate", "zip", "dict_itemiterator", "dict_reverseitemiterator", "odict_iterator", "itertools.zip_longest", "itertools.pairwise"].contains n = false) (hQ : Q () s) : wpAny M A (letOwnedTupleGo tg (.ref it) u) Q E s := by
  unfold letOwnedTupleGo
  cases tg <;> first
    | exact wpAny_pure hQ
    | (cases u <;> first
        | exact wpAny_pure hQ
        | (refine wpAny_bind (wpAny_load ho ?_)
           rw [hc, hd]
           show wpAny M A (if (["enumerate", "zip", "dict_itemiterator", "dict_reverseitemiterator", "odict_iterator", "itertools.zip_longest", "itertools.pairwise"].contains n && vs[0]? == some (rawInt _)) = true then _ else _) Q E s
           rw [if_neg (by intro h; rw [hn, Bool.false_and] at h; cases h)]
           exact wpAny_pure hQ))
def Itl (K : PySem.W.Frag) (a : Addr) : It :=
  ⟨fun i H => ∃ xs x, SqL K H a xs ∧ xs[i]? = some x, fun i H x H' => H' = H ∧ ∀ xs, SqL K H a xs → xs[i]? = some x, fun i H => ∃ xs, SqL K H a xs ∧ xs.length ≤ i⟩
def Itt (K : PySem.W.Frag) (a : Addr) : It :=
  ⟨fun i H => ∃ xs x, SqT K H a xs ∧ xs[i]? = some x, fun i H x H' => H' = H ∧ ∀ xs, SqT K H a xs → xs[i]? = some x, fun i H => ∃ xs, SqT K H a xs ∧ xs.length ≤ i⟩
def Itr (lo : Int) (n : Nat) : It := ⟨fun i _ => i < n, fun i H x H' => H' = H ∧ x = .int (lo + i), fun i _ => n ≤ i⟩
theorem turn_list {P : Program} {w : World} {K : PySem.W.Frag} {tg : Expr} (a it : Addr) : Turn P w K tg (Itl K a) [it] it (fun i h => h.IsListIter it a i) where
  mem := by simp
  obj := fun i h st b hb => by
    have e : b = it := by simpa using hb
    subst e
    obtain ⟨o, e, c, d⟩ := st
    exact ⟨o, e, fun v z => by rw [d] at z; cases z⟩
  keep := fun i h h' st k => st.at fun o e => k it (by simp) o e
  item := by
    intro X hP hw hK hc i pins s σ H E I hf st hg
    subst hP hw hK
    obtain ⟨xs, x, hq, hx⟩ := hg
    obtain ⟨its, rv, p, hz⟩ := I.list hq
    obtain ⟨u, hu, ru⟩ := rv.get hx
    obtain ⟨f0, f1, f2, f3, f4, f5⟩ := hf it (by simp)
    refine wpAny_pyNext_list_item st p.isList (x := u) (by simpa using hu) fun h' st' sb => ?_
    have I1 : Inv X pins σ H { s with heap := h' } := I.turned (t' := s.toks) (fun b o hb e => (sb.2 b hb).trans e) f0 f1 f3 f4 f5
    obtain ⟨o, e, c, d⟩ := id st'
    exact ⟨u, rfl, go_of (s := { s with heap := h' }) e c d (by decide) ⟨x, H, I1, ru, ⟨rfl, fun ys hy => by rw [I.list_inj hy hq]; exact hx⟩, st', fun b hb => (hf b hb).1⟩⟩
  done := by
    intro X hP hw hK hc i pins s σ H E I hf st hg
    subst hP hw hK
    obtain ⟨xs, hq, hx⟩ := hg
    obtain ⟨its, rv, p, hz⟩ := I.list hq
    obtain ⟨f0, f1, f2, f3, f4, f5⟩ := hf it (by simp)
    have hl := rv.length
    exact wpAny_pyNext_list_end (I.ok.hd hc) st p.isList (by simp; omega) fun h' eb => ⟨rfl, I.turned (t' := s.toks) (fun b o hb e => eb b o hb e) f0 f1 f3 f4 f5⟩
  self := fun _ _ _ _ _ st h => wpAny_pyIter_listiter st h
theorem turn_tuple {P : Program} {w : World} {K : PySem.W.Frag} {tg : Expr} (a it : Addr) : Turn P w K tg (Itt K a) [it] it (fun i h => h.IsTupleIter it a i) where
  mem := by simp
  obj := fun i h st b hb => by
    have e : b = it := by simpa using hb
    subst e
    obtain ⟨o, e, c, d⟩ := st
    exact ⟨o, e, fun v z => by rw [d] at z; cases z⟩
  keep := fun i h h' st k => st.at fun o e => k it (by simp) o e
  item := by
    intro X hP hw hK hc i pins s σ H E I hf st hg
    subst hP hw hK
    obtain ⟨xs, x, hq, hx⟩ := hg
    obtain ⟨its, rv, p, hz⟩ := I.tuple hq
    obtain ⟨u, hu, ru⟩ := rv.get hx
    obtain ⟨f0, f1, f2, f3, f4, f5⟩ := hf it (by simp)
    refine wpAny_pyNext_tuple_item st (show s.heap.IsTuple a its.toArray from p) (x := u) (by simpa using hu) fun h' st' sb => ?_
    have I1 : Inv X pins σ H { s with heap := h' } := I.turned (t' := s.toks) (fun b o hb e => (sb.2 b hb).trans e) f0 f1 f3 f4 f5
    obtain ⟨o, e, c, d⟩ := id st'
    exact ⟨u, rfl, go_of (s := { s with heap := h' }) e c d (by decide) ⟨x, H, I1, ru, ⟨rfl, fun ys hy => by rw [I.tuple_inj hy hq]; exact hx⟩, st', fun b hb => (hf b hb).1⟩⟩
  done := by
    intro X hP hw hK hc i pins s σ H E I hf st hg
    subst hP hw hK
    obtain ⟨xs, hq, hx⟩ := hg
    obtain ⟨its, rv, p, hz⟩ := I.tuple hq
    obtain ⟨f0, f1, f2, f3, f4, f5⟩ := hf it (by simp)
    have hl := rv.length
    exact wpAny_pyNext_tuple_end (I.ok.hd hc) st (show s.heap.IsTuple a its.toArray from p) (by simp; omega) fun h' eb => ⟨rfl, I.turned (t' := s.toks) (fun b o hb e => eb b o hb e) f0 f1 f3 f4 f5⟩
  self := fun _ _ _ _ _ st h => wpAny_pyIter_tupleiter st h
theorem turn_range {P : Program} {w : World} {K : PySem.W.Frag} {tg : Expr} (it : Addr) (lo : Int) (n : Nat) : Turn P w K tg (Itr lo n) [it] it (fun i h => IsRangeIter h it (lo + (i : Nat) * 1) ((n : Int) - (i : Nat)) 1) where
  mem := by simp
  obj := fun i h st b hb => by
    have e : b = it := by simpa using hb
    subst e
    exact ⟨_, st, fun v z => by
      have z' : Data.fields _ = Data.cell v := z
      cases z'⟩
  keep := fun i h h' st k => k it (by simp) _ st
  item := by
    intro X hP hw hK hc i pins s σ H E I hf st hg
    subst hP hw hK
    obtain ⟨f0, f1, f2, f3, f4, f5⟩ := hf it (by simp)
    have W := Walks.range (prog := X.prog) (w := X.w) (I.ok.hd hc) it lo 1 n
    refine W.item i s _ _ hg st fun v h' tk hv st' kk => ?_
    obtain ⟨t, rfl⟩ := hv
    have I1 : Inv X pins σ H { s with heap := h', toks := tk } := I.turned (fun b o hb e => kk b o (by simpa using hb) e) f0 f1 f3 f4 f5
    refine ⟨_, rfl, go_of (s := { s with heap := h', toks := tk }) (n := "range_iterator") st' rfl rfl (by decide) ⟨.int (lo + i), H, I1, ⟨t, ?_⟩, ⟨rfl, rfl⟩, st', fun b hb => (hf b hb).1⟩⟩
    rw [Int.mul_one]
  done := by
    intro X hP hw hK hc i pins s σ H E I hf st hg
    subst hP hw hK
    obtain ⟨f0, f1, f2, f3, f4, f5⟩ := hf it (by simp)
    exact wpAny_pyNext_range_end (I.ok.hd hc) st (by have : n ≤ i := hg; omega) fun h' eb => ⟨rfl, I.turned (t' := s.toks) (fun b o hb e => eb b o hb e) f0 f1 f3 f4 f5⟩
  self := fun _ _ _ _ _ st h => wpAny_pyIter_rangeiter st h
end L2
namespace L2
open PySem PySem.Spec PyProof.Rows
section
variable {X : Cx} {tg : Expr}
theorem range_it {pins : List (Addr × Obj)} {σ : St} {H : Hp} {s : Shared} {R : It → Hp → Prop} {E : Value → Shared → Prop} {lo hi : Int} {t u v : Tok} {tk : Nat} (I : Inv X pins σ H s) (h1 : -(2 ^ 62) ≤ lo) (h2 : lo < 2 ^ 62) (h3 : -(2 ^ 62) ≤ hi) (h4 : hi < 2 ^ 62)
    (q : R (Itr lo (hi - lo).toNat) H) : wpAny (model X.prog X.w) X.A (pyIter (.ref s.heap.objs.size)) (PIE X pins σ tg R) E { s with heap := s.heap.push { cls := .type "range", data := .fields #[.int lo t, .int hi u, .int 1 v] }, toks := tk } := by
  refine wpAny_pyIter_range (IsRange.new ..) (small_one h1 h2 h3 h4) ?_
  have I1 : Inv X pins σ H { s with heap := s.heap.push { cls := .type "range", data := .fields #[.int lo t, .int hi u, .int 1 v] }, toks := tk } := I.kept fun b o e => Heap.get?_push_of_some _ e
  refine ⟨(s.heap.push { cls := .type "range", data := .fields #[.int lo t, .int hi u, .int 1 v] }).objs.size, [(s.heap.push { cls := .type "range", data := .fields #[.int lo t, .int hi u, .int 1 v] }).objs.size], _, _, H, rfl,
    I1.kept (t' := tk) fun b o e => Heap.get?_push_of_some _ e, turn_range _ lo (hi - lo).toNat, ?_, fun b hb => ?_, q⟩
  · have e1 : lo + ((0 : Nat) : Int) * 1 = lo := by simp
    have e2 : (((hi - lo).toNat : Nat) : Int) - ((0 : Nat) : Int) = Builtin.Range.rangeSize lo hi 1 := by rw [rangeSize_one]; split <;> omega
    show IsRangeIter _ _ (lo + ((0 : Nat) : Int) * 1) ((((hi - lo).toNat : Nat) : Int) - ((0 : Nat) : Int)) 1
    rw [e1, e2]
    exact Heap.get?_push_size _ rfl
  · have e : b = (s.heap.push { cls := .type "range", data := .fields #[.int lo t, .int hi u, .int 1 v] }).objs.size := by simpa using hb
    subst e
    exact I1.fpOk (Nat.le_refl _) (I1.hok.fresh (Nat.le_refl _))
def iRng1 (ta : TA) : TI := fun σ H R => ta σ H fun vs H1 => ∃ j : Int, vs = [.int j] ∧ -(2 ^ 62) ≤ j ∧ j < 2 ^ 62 ∧ R (Itr 0 j.toNat) H1
theorem pi_range1 {a : Expr} {ta : TA} {p pos : Pos} (hg : Gl X "range") (hm : X.mg "range" = none) (ha : PA X [a] ta) (hs : starEach [a] X.env = [(false, eval a X.env)] := by rfl) : PI X tg (.Call (.Name "range" p) [a] [] pos) (iRng1 ta) := by
  intro pins s σ H R I h
  refine Call_ (ld_blt I hg hm boot_range (PyProof.Rows.callWith_type1 (thn (ha pos pins s σ H _ I h) fun us s1 ⟨vs, H1, I1, r1, q1⟩ => ?_) hs rfl))
  obtain ⟨j, e, q1, q2, q⟩ := q1
  subst e
  cases r1 with
  | cons r rr =>
    cases rr
    obtain ⟨t, rfl⟩ := r
    exact call_range_1 (range_it I1 (by omega) (by omega) q1 q2 (by simpa using q))
def tFor (wi : TI) (g : TG) (tb : TS) : TS := fun D σ H => wi σ H fun J H1 => ∃ W : Nat → Nat → St → Hp → Prop, (∃ m, W 0 m σ H1) ∧ ∀ i m σ H, W i m σ H →
  (J.stop i H ∧ D.nx σ H) ∨ (J.go i H ∧ ∃ N : St → Hp → Prop, (∀ σ' H', N σ' H' → ∃ m', m' < m ∧ W (i + 1) m' σ' H') ∧ ∀ x H', J.yld i H x H' → g x σ H' fun σ2 H2 => tb { D with nx := N, ct := N, bk := D.nx } σ2 H2)
def pinsAt (fp : List Addr) (h : Heap) : List (Addr × Obj) := fp.filterMap fun b => (h.get? b).map fun o => (b, o)
theorem mem_pinsAt {fp : List Addr} {h : Heap} {b : Addr} {o : Obj} (hb : b ∈ fp) (e : h.get? b = some o) : (b, o) ∈ pinsAt fp h := List.mem_filterMap.mpr ⟨b, hb, by rw [e]; rfl⟩
theorem of_pinsAt {fp : List Addr} {h : Heap} {p : Addr × Obj} (hp : p ∈ pinsAt fp h) : p.1 ∈ fp ∧ h.get? p.1 = some p.2 := by
  obtain ⟨b, hb, e⟩ := List.mem_filterMap.mp hp
  cases q : h.get? b with
  | none => rw [q] at e; cases e
  | some o =>
    rw [q] at e
    have e' : (b, o) = p := Option.some.inj e
    subst e'
    exact ⟨hb, q⟩
theorem Inv.pinned {pins : List (Addr × Obj)} {σ : St} {H : Hp} {s : Shared} {fp : List Addr} (I : Inv X pins σ H s) (hf : ∀ b ∈ fp, FpOk X pins H b) (ho : ∀ b ∈ fp, ∃ o, s.heap.get? b = some o ∧ ∀ v, o.data ≠ .cell v) : Inv X (pins ++ pinsAt fp s.heap) σ H s :=
  I.pins_of fun p hp => (List.mem_append.mp hp).elim (fun z => I.pin p (List.mem_append_right _ z)) fun z => by
    obtain ⟨hb, e⟩ := of_pinsAt z
    obtain ⟨f0, f1, f2, _⟩ := hf p.1 hb
    obtain ⟨o, e', d⟩ := ho p.1 hb
    rw [e] at e'; cases e'
    exact ⟨e, f0, f1, f2, d⟩
theorem Inv.unpinned {pins pl : List (Addr × Obj)} {σ : St} {H : Hp} {s : Shared} (I : Inv X (pins ++ pl) σ H s) : Inv X pins σ H s := I.pins_of fun p hp => I.pin p (List.mem_append_right _ (List.mem_append_left _ hp))
theorem ps_for {iter : Expr} {body : List Stmt} {wi : TI} {g : TG} {tb : TS} {pos : Pos} (hp : PassesOwn (model X.prog X.w) X.A X.env X.xe) (hc : X.calm = true) (hi : PI X tg iter wi) (hg : PG X tg g) (hb : PSs X body tb)
    (hs : ∀ x, foldedSetIterable iter X.env x = pure x := by intro _; rfl) : PS X (.For tg iter body [] pos) (tFor wi g tb) := by
  intro pins s σ H D I h
  refine wpAny_For (thn (hi pins s σ H _ I h) fun v s1 h1 => thn h1 fun itv s2 h2 => ?_) hs
  obtain ⟨it, fp, tn, J, H2, e, I2, T, st2, f2, W, ⟨m0, w0⟩, turn⟩ := h2
  subst e
  have stat : ∀ {H' : Hp}, (∀ b ∈ fp, H' b = none) → ∀ b ∈ fp, FpOk X pins H' b := fun hn b hb => ⟨hn b hb, (f2 b hb).2⟩
  refine codeAny_forLoop_any (fun n s' => ∃ i σ' H', Inv X pins σ' H' s' ∧ tn i s'.heap ∧ (∀ b ∈ fp, H' b = none) ∧ W i n σ' H') ?_ m0 ⟨0, σ, H2, I2, st2, fun b hb => (f2 b hb).1, w0⟩
  rintro n s3 ⟨i, σ3, H3, I3, st3, fr3, w3⟩
  rcases turn i n σ3 H3 w3 with ⟨stop, qn⟩ | ⟨go, N, hN, step⟩
  · refine wpAny_passesOwn hp (thn (T.done X rfl rfl rfl hc i pins s3 σ3 H3 X.xe I3 (stat fr3) st3 stop) fun r s4 ⟨hr, I4⟩ => ?_)
    subst hr
    exact wpAny_execs_nil ⟨σ3, H3, I4, qn⟩
  · refine wpAny_passesOwn hp (thn (T.item X rfl rfl rfl hc i pins s3 σ3 H3 X.xe I3 (stat fr3) st3 go) fun r s4 ⟨u, hr, h4⟩ => ?_)
    subst hr
    refine wpAny_passesOwn hp (thn h4 fun _ s5 ⟨x, H5, I5, r5, y5, st5, fr5⟩ => ?_)
    have I5' := I5.pinned (stat fr5) (T.obj _ _ st5)
    refine wpAny_passesOwn hp (thn (hg _ s5 σ3 H5 x u _ I5' r5 (step x H5 y5)) fun _ s6 ⟨σ6, H6, I6, q6⟩ => ?_)
    refine wpAny_passesOwn hp (thn (hb _ s6 σ6 H6 _ I6 q6) fun f s7 q7 => ?_)
    have again : ∀ {σ7 : St} {H7 : Hp}, Inv X (pins ++ pinsAt fp s5.heap) σ7 H7 s7 → N σ7 H7 → ∃ m, m < n ∧ ∃ i σ' H', Inv X pins σ' H' s7 ∧ tn i s7.heap ∧ (∀ b ∈ fp, H' b = none) ∧ W i m σ' H' := fun {σ7 H7} I7 n7 => by
      obtain ⟨m', hm, w7⟩ := hN σ7 H7 n7
      refine ⟨m', hm, i + 1, σ7, H7, I7.unpinned, T.keep _ _ _ st5 fun b hb o e => (I7.pin (b, o) (List.mem_append_right _ (List.mem_append_right _ (mem_pinsAt hb e)))).1, fun b hb => ?_, w7⟩
      obtain ⟨o, e, d⟩ := T.obj _ _ st5 b hb
      exact (I7.pin (b, o) (List.mem_append_right _ (List.mem_append_right _ (mem_pinsAt hb e)))).2.1
    cases f with
    | next => obtain ⟨σ7, H7, I7, n7⟩ := q7; exact again I7 n7
    | cont => obtain ⟨σ7, H7, I7, n7⟩ := q7; exact again I7 n7
    | brk => obtain ⟨σ7, H7, I7, q7⟩ := q7; exact ⟨σ7, H7, I7.unpinned, q7⟩
    | ret v => obtain ⟨x7, σ7, H7, I7, r7, q7⟩ := q7; exact ⟨x7, σ7, H7, I7.unpinned, r7, q7⟩
end
end L2
namespace L2
open PySem PySem.Spec PyProof.Rows
abbrev R2 := V → V → Hp → VK → Prop
def OpR (X : Cx) (f : Value → Value → Sem Value) (r : R2) : Prop :=
  ∀ (pins : List (Addr × Obj)) (s : Shared) (σ : St) (H : Hp) (x y : V) (v u : Value) (Q : VK), Inv X pins σ H s → RelV x v → RelV y u → r x y H Q →
    wpAny (model X.prog X.w) X.A (f v u) (EP X pins σ Q) X.xe s
def CallR (X : Cx) (f : Value) (r : List V → Hp → VK → Prop) : Prop :=
  ∀ (pins : List (Addr × Obj)) (s : Shared) (σ : St) (H : Hp) (xs : List V) (us : List Value) (Q : VK), Inv X pins σ H s → Vals xs us → r xs H Q →
    wpAny (model X.prog X.w) X.A (call f us) (EP X pins σ Q) X.xe s
def TruR (X : Cx) (r : V → Hp → (Bool → Hp → Prop) → Prop) : Prop :=
  ∀ (pins : List (Addr × Obj)) (s : Shared) (σ : St) (H : Hp) (x : V) (v : Value) (Q : Bool → Hp → Prop), Inv X pins σ H s → RelV x v → r x H Q →
    wpAny (model X.prog X.w) X.A (truthy v) (TP X pins σ Q) X.xe s
def tOp (r : R2) (ta tb : TE) : TE := fun σ H Q => ta σ H fun x H1 => tb σ H1 fun y H2 => r x y H2 Q
def rI (C : Int → Int → Prop) (g : Int → Int → V) : R2 := fun x y H Q => ∃ i j, x = .int i ∧ y = .int j ∧ C i j ∧ Q (g i j) H
def rI0 (g : Int → Int → V) : R2 := fun x y H Q => ∃ i j, x = .int i ∧ y = .int j ∧ Q (g i j) H
section
variable {X : Cx} {a b c : Expr} {ta tb tc : TE} {pos : Pos}
theorem binT (ha : PE X a ta) (hb : PE X b tb) {pins : List (Addr × Obj)} {s : Shared} {σ : St} {H : Hp} {R : V → V → Hp → Prop} (I : Inv X pins σ H s)
    (h : ta σ H fun x H1 => tb σ H1 fun y H2 => R x y H2) {Q : Value → Shared → Prop} {f : Value → Value → Sem Value}
    (hf : ∀ v u s2 x y H2, Inv X pins σ H2 s2 → RelV x v → RelV y u → R x y H2 → wpAny (model X.prog X.w) X.A (f v u) Q X.xe s2) :
    wpAny (model X.prog X.w) X.A (eval a X.env) (fun v s₁ => wpAny (model X.prog X.w) X.A (eval b X.env) (fun u s₂ => wpAny (model X.prog X.w) X.A (f v u) Q X.xe s₂) X.xe s₁) X.xe s := by
  refine thn (ha pins s σ H _ I h) fun v s1 ⟨x, H1, I1, r1, q1⟩ => ?_
  refine thn (hb pins s1 σ H1 _ I1 q1) fun u s2 ⟨y, H2, I2, r2, q2⟩ => ?_
  exact hf v u s2 x y H2 I2 r1 r2 q2
theorem pe_op {op : Operator} {r : R2} (ho : OpR X (binaryOp op) r) (ha : PE X a ta) (hb : PE X b tb) : PE X (.BinOp a op b pos) (tOp r ta tb) := by
  intro pins s σ H Q I h
  exact wpAny_BinOp (binT ha hb I h fun v u s2 x y H2 I2 rx ry q => ho pins s2 σ H2 x y v u Q I2 rx ry q)
theorem opI {f : Value → Value → Sem Value} {C : Int → Int → Prop} {g : Int → Int → Int}
    (rule : ∀ (i j : Int) (t u : Tok) (s : Shared) (Q : Value → Shared → Prop) (E : Value → Shared → Prop), C i j → Q (.int (g i j) s.toks) { s with toks := s.toks + 1 } → wpAny (model X.prog X.w) X.A (f (.int i t) (.int j u)) Q E s) :
    OpR X f (rI C fun i j => .int (g i j)) := by
  intro pins s σ H x y v u Q I rx ry h
  obtain ⟨i, j, rfl, rfl, hc, q⟩ := h
  obtain ⟨t, rfl⟩ := rx
  obtain ⟨t', rfl⟩ := ry
  exact rule i j t t' s _ _ hc ⟨.int (g i j), H, I.tok _, ⟨_, rfl⟩, q⟩
theorem opI0 {f : Value → Value → Sem Value} {g : Int → Int → Int}
    (rule : ∀ (i j : Int) (t u : Tok) (s : Shared) (Q : Value → Shared → Prop) (E : Value → Shared → Prop), Q (.int (g i j) s.toks) { s with toks := s.toks + 1 } → wpAny (model X.prog X.w) X.A (f (.int i t) (.int j u)) Q E s) :
    OpR X f (rI0 fun i j => .int (g i j)) := by
  intro pins s σ H x y v u Q I rx ry h
  obtain ⟨i, j, rfl, rfl, q⟩ := h
  obtain ⟨t, rfl⟩ := rx
  obtain ⟨t', rfl⟩ := ry
  exact rule i j t t' s _ _ ⟨.int (g i j), H, I.tok _, ⟨_, rfl⟩, q⟩
theorem opB0 {f : Value → Value → Sem Value} {g : Int → Int → Bool}
    (rule : ∀ (i j : Int) (t u : Tok) (s : Shared) (Q : Value → Shared → Prop) (E : Value → Shared → Prop), Q (.bool (g i j)) s → wpAny (model X.prog X.w) X.A (f (.int i t) (.int j u)) Q E s) :
    OpR X f (rI0 fun i j => .bl (g i j)) := by
  intro pins s σ H x y v u Q I rx ry h
  obtain ⟨i, j, rfl, rfl, q⟩ := h
  obtain ⟨t, rfl⟩ := rx
  obtain ⟨t', rfl⟩ := ry
  exact rule i j t t' s _ _ ⟨.bl (g i j), H, I, rfl, q⟩
def CPow (i j : Int) : Prop := 0 ≤ j ∧ j ≤ 1000000 ∧ i.natAbs < 2 ^ 64
def CMul (i j : Int) : Prop := (-(2 ^ 64) < i ∧ i < 2 ^ 64) ∨ (-(2 ^ 64) < j ∧ j < 2 ^ 64)
theorem CMul.ok {i j : Int} (h : CMul i j) : IntMulOk i j := by
  rcases h with ⟨h1, h2⟩ | ⟨h1, h2⟩
  · exact .of_left (intBits_le_64 h1 h2)
  · exact .of_right (intBits_le_64 h1 h2)
theorem op_add : OpR X (binaryOp .Add) (rI0 fun i j => .int (i + j)) := opI0 fun _ _ _ _ _ _ _ q => add_int q
theorem op_sub : OpR X (binaryOp .Sub) (rI0 fun i j => .int (i - j)) := opI0 fun _ _ _ _ _ _ _ q => sub_int q
theorem op_mod : OpR X (binaryOp .Mod) (rI (fun _ j => 0 < j) fun i j => .int (i % j)) := opI fun i j _ _ _ _ _ hc q => by
  have h1 : (0 : Int) < j := hc
  exact mod_int' (by omega) (by rw [Int.fmod_eq_emod_of_nonneg i (by omega)]; exact q)
theorem op_pow : OpR X (binaryOp .Pow) (rI CPow fun i j => .int (i ^ j.toNat)) := opI fun _ _ _ _ _ _ _ hc q => pow_int_small hc.1 hc.2.1 hc.2.2 q
end
def scal : V → V → Bool
  | .non, .non => true | .non, .int _ => true | .int _, .non => true | .non, .bl _ => true | .bl _, .non => true | .non, .str _ => true | .str _, .non => true
  | .int _, .int _ => true | .bl _, .bl _ => true | .str _, .str _ => true | .byt _, .byt _ => true
  | .int _, .str _ => true | .str _, .int _ => true | .bl _, .str _ => true | .str _, .bl _ => true
  | _, _ => false
def rEq : R2 := fun x y H Q => scal x y = true ∧ Q (.bl (decide (x = y))) H
def rNe : R2 := fun x y H Q => scal x y = true ∧ Q (.bl (!decide (x = y))) H
theorem dec_int {i j : Int} : decide (V.int i = V.int j) = (i == j) := by
  rw [Bool.eq_iff_iff]
  simp
theorem dec_bl {i j : Bool} : decide (V.bl i = V.bl j) = (i == j) := by
  rw [Bool.eq_iff_iff]
  simp
theorem dec_str {i j : Str} : decide (V.str i = V.str j) = (i == j) := by
  rw [Bool.eq_iff_iff]
  simp
theorem dec_byt {i j : Array UInt8} : decide (V.byt i = V.byt j) = (i.toList == j.toList) := by
  rw [Bool.eq_iff_iff]
  cases i
  cases j
  simp
section
variable {X : Cx} {a b c : Expr} {ta tb tc : TE} {pos : Pos}
theorem fin_bl {pins : List (Addr × Obj)} {σ : St} {H : Hp} {s : Shared} {Q : VK} {k k' : Bool} (I : Inv X pins σ H s) (q : Q (.bl k) H) (e : k = k') : EP X pins σ Q (.bool k') s := by
  subst e
  exact ⟨.bl k, H, I, rfl, q⟩
theorem op_eq : OpR X (compareOp .Eq) rEq := by
  intro pins s σ H x y v u Q I rx ry h
  obtain ⟨hs, q⟩ := h
  cases x with
  | non =>
    cases rx
    cases y with
    | non => cases ry; exact PySem.EqNone.eq_none_none (fin_bl I q (by simp))
    | bl j => cases ry; exact PySem.EqNone.eq_none_bool (fin_bl I q (by simp))
    | int j => obtain ⟨t', rfl⟩ := ry; exact PySem.EqNone.eq_none_int (fin_bl I q (by simp))
    | str j => obtain ⟨t', rfl⟩ := ry; exact PySem.EqNone.eq_none_str (fin_bl I q (by simp))
    | _ => exact absurd (show false = true from hs) Bool.false_ne_true
  | bl i =>
    cases rx
    cases y with
    | non => cases ry; exact PySem.EqNone.eq_bool_none (fin_bl I q (by simp))
    | bl j => cases ry; exact eq_bool (fin_bl I q dec_bl)
    | str j => obtain ⟨t', rfl⟩ := ry; exact PySem.EqMixed.eq_bool_str (fin_bl I q (by simp))
    | _ => exact absurd (show false = true from hs) Bool.false_ne_true
  | int i =>
    obtain ⟨t, rfl⟩ := rx
    cases y with
    | non => cases ry; exact PySem.EqNone.eq_int_none (fin_bl I q (by simp))
    | int j => obtain ⟨t', rfl⟩ := ry; exact eq_int (fin_bl I q dec_int)
    | str j => obtain ⟨t', rfl⟩ := ry; exact PySem.EqMixed.eq_int_str (fin_bl I q (by simp))
    | _ => exact absurd (show false = true from hs) Bool.false_ne_true
  | str i =>
    obtain ⟨t, rfl⟩ := rx
    cases y with
    | non => cases ry; exact PySem.EqNone.eq_str_none (fin_bl I q (by simp))
    | bl j => cases ry; exact PySem.EqMixed.eq_str_bool (fin_bl I q (by simp))
    | int j => obtain ⟨t', rfl⟩ := ry; exact PySem.EqMixed.eq_str_int (fin_bl I q (by simp))
    | str j => obtain ⟨t', rfl⟩ := ry; exact eq_str (fin_bl I q dec_str)
    | _ => exact absurd (show false = true from hs) Bool.false_ne_true
  | byt i =>
    obtain ⟨t, rfl⟩ := rx
    cases y with
    | byt j => obtain ⟨t', rfl⟩ := ry; exact PySem.W.eq_bytes (fin_bl I q dec_byt)
    | _ => exact absurd (show false = true from hs) Bool.false_ne_true
  | _ => cases y <;> exact absurd (show false = true from hs) Bool.false_ne_true
theorem op_ne : OpR X (compareOp .NotEq) rNe := by
  intro pins s σ H x y v u Q I rx ry h
  obtain ⟨hs, q⟩ := h
  cases x with
  | non =>
    cases rx
    cases y with
    | non => cases ry; exact PySem.EqNone.ne_none_none (fin_bl I q (by simp))
    | bl j => cases ry; exact PySem.EqNone.ne_none_bool (fin_bl I q (by simp))
    | int j => obtain ⟨t', rfl⟩ := ry; exact PySem.EqNone.ne_none_int (fin_bl I q (by simp))
    | str j => obtain ⟨t', rfl⟩ := ry; exact PySem.EqNone.ne_none_str (fin_bl I q (by simp))
    | _ => exact absurd (show false = true from hs) Bool.false_ne_true
  | bl i =>
    cases rx
    cases y with
    | non => cases ry; exact PySem.EqNone.ne_bool_none (fin_bl I q (by simp))
    | bl j => cases ry; exact ne_bool (fin_bl I q (congrArg not dec_bl))
    | str j => obtain ⟨t', rfl⟩ := ry; exact PySem.EqMixed.ne_bool_str (fin_bl I q (by simp))
    | _ => exact absurd (show false = true from hs) Bool.false_ne_true
  | int i =>
    obtain ⟨t, rfl⟩ := rx
    cases y with
    | non => cases ry; exact PySem.EqNone.ne_int_none (fin_bl I q (by simp))
    | int j => obtain ⟨t', rfl⟩ := ry; exact ne_int (fin_bl I q (congrArg not dec_int))
    | str j => obtain ⟨t', rfl⟩ := ry; exact PySem.EqMixed.ne_int_str (fin_bl I q (by simp))
    | _ => exact absurd (show false = true from hs) Bool.false_ne_true
  | str i =>
    obtain ⟨t, rfl⟩ := rx
    cases y with
    | non => cases ry; exact PySem.EqNone.ne_str_none (fin_bl I q (by simp))
    | bl j => cases ry; exact PySem.EqMixed.ne_str_bool (fin_bl I q (by simp))
    | int j => obtain ⟨t', rfl⟩ := ry; exact PySem.EqMixed.ne_str_int (fin_bl I q (by simp))
    | str j => obtain ⟨t', rfl⟩ := ry; exact ne_str (fin_bl I q (congrArg not dec_str))
    | _ => exact absurd (show false = true from hs) Bool.false_ne_true
  | byt i =>
    obtain ⟨t, rfl⟩ := rx
    cases y with
    | byt j => obtain ⟨t', rfl⟩ := ry; exact PySem.W.ne_bytes (fin_bl I q (congrArg not dec_byt))
    | _ => exact absurd (show false = true from hs) Bool.false_ne_true
  | _ => cases y <;> exact absurd (show false = true from hs) Bool.false_ne_true
theorem op_lt : OpR X (compareOp .Lt) (rI0 fun i j => .bl (decide (i < j))) := opB0 fun _ _ _ _ _ _ _ q => lt_int q
theorem op_le : OpR X (compareOp .LtE) (rI0 fun i j => .bl (decide (i ≤ j))) := opB0 fun _ _ _ _ _ _ _ q => le_int q
theorem op_gt : OpR X (compareOp .Gt) (rI0 fun i j => .bl (decide (j < i))) := opB0 fun _ _ _ _ _ _ _ q => gt_int q
theorem op_ge : OpR X (compareOp .GtE) (rI0 fun i j => .bl (decide (j ≤ i))) := opB0 fun _ _ _ _ _ _ _ q => ge_int q
theorem OpR.or {f : Value → Value → Sem Value} {r r' : R2} (h : OpR X f r) (h' : OpR X f r') : OpR X f (fun x y H Q => r x y H Q ∨ r' x y H Q) := by
  intro pins s σ H x y v u Q I rx ry q
  rcases q with q | q
  · exact h pins s σ H x y v u Q I rx ry q
  · exact h' pins s σ H x y v u Q I rx ry q
theorem pe_cmpR {op : CmpOp} {r : R2} (ho : OpR X (compareOp op) r) (ha : PE X a ta) (hb : PE X b tb) (hm : behindInMarks op b = false) : PE X (.Compare a [op] [b] pos) (tOp r ta tb) := by
  intro pins s σ H Q I h
  exact wpAny_Compare1 (binT ha hb I h fun v u s2 x y H2 I2 rx ry q => ho pins s2 σ H2 x y v u Q I2 rx ry q) hm
def tTest (t : TE) : TT := fun σ H Q => t σ H fun x H' => ∃ k, x = .bl k ∧ Q k H'
theorem pt_cmpR {op : CmpOp} {r : R2} (ho : OpR X (compareOp op) r) (ha : PE X a ta) (hb : PE X b tb) (hm : behindInMarks op b = false) : PT X (.Compare a [op] [b] pos) (tTest (tOp r ta tb)) := by
  intro pins s σ H Q I h
  refine wpAny_isTrue_Compare1 (thn (ha pins s σ H _ I h) fun v s1 ⟨x, H1, I1, r1, q1⟩ => thn (hb pins s1 σ H1 _ I1 q1) fun u s2 ⟨y, H2, I2, r2, q2⟩ =>
    thn (ho pins s2 σ H2 x y v u _ I2 r1 r2 q2) fun c s3 ⟨z, H3, I3, r3, k, e, q3⟩ => ?_) hm
  subst e
  cases r3
  exact wpAny_truthy_bool ⟨H3, I3, q3⟩
def tChain (r r' : R2) (ta tb tc : TE) : TE := fun σ H Q => ta σ H fun x H1 => tb σ H1 fun y H2 => r x y H2 fun z H3 => ∃ k, z = .bl k ∧
  (if k = true then tc σ H3 fun w' H4 => r' y w' H4 Q else Q (.bl false) H3)
theorem pe_chain {op op' : CmpOp} {r r' : R2} (ho : OpR X (compareOp op) r) (ho' : OpR X (compareOp op') r') (ha : PE X a ta) (hb : PE X b tb) (hc : PE X c tc)
    (hm : lastMarks [op, op'] [b, c] = false := by with_unfolding_all rfl) : PE X (.Compare a [op, op'] [b, c] pos) (tChain r r' ta tb tc) := by
  intro pins s σ H Q I h
  refine Compare_chain (thn (ha pins s σ H _ I h) fun v s1 ⟨x, H1, I1, r1, q1⟩ => chain_link (thn (hb pins s1 σ H1 _ I1 q1) fun u s2 ⟨y, H2, I2, r2, q2⟩ =>
    thn (ho pins s2 σ H2 x y v u _ I2 r1 r2 q2) fun d s3 ⟨z, H3, I3, r3, k, e, q3⟩ => ?_)) hm
  subst e
  cases r3
  refine wpAny_truthy_bool ?_
  cases k with
  | false => exact ite_ff ⟨.bl false, H3, I3, rfl, q3⟩
  | true => exact ite_tt (chain_last (thn (hc pins s3 σ H3 _ I3 q3) fun w' s4 ⟨z', H4, I4, r4, q4⟩ => ho' pins s4 σ H4 y z' u w' Q I4 r2 r4 q4))
def TruV (K : PySem.W.Frag) (x : V) (H : Hp) (k : Bool) : Prop :=
  match x with
  | .non => k = false
  | .bl b => k = b
  | .int i => k = (i != 0)
  | .str y => y.length ≤ sizeLine ∧ k = ((y.length : Int) != 0)
  | .byt y => y.size ≤ sizeLine ∧ k = ((y.size : Int) != 0)
  | .ref p => (∃ xs, SqL K H p xs ∧ k = !xs.isEmpty) ∨ (∃ xs, SqT K H p xs ∧ k = !xs.isEmpty) ∨ ∃ kvs, H p = some (.dK kvs) ∧ k = !kvs.isEmpty
  | _ => False
theorem isEmpty_kv {κ : Type} {kvs : List (κ × V)} {vs : List (κ × Value)} (r : KV kvs vs) : (!vs.isEmpty) = !kvs.isEmpty := by
  cases r <;> rfl
theorem isEmpty_of {xs : List V} {its : List Value} (r : Vals xs its) : (!its.toArray.isEmpty) = !xs.isEmpty := by
  cases r <;> simp
theorem line63 : (sizeLine : Nat) < 2 ^ 63 := by rw [sizeLine_eq]; decide
theorem tru_ok : TruR X (fun x H Q => ∃ k, TruV X.K x H k ∧ Q k H) := by
  intro pins s σ H x v Q I rx h
  obtain ⟨k, e, q⟩ := h
  have hl := line63
  have hs : sizeLine = 16777216 := sizeLine_eq
  cases x with
  | non =>
    cases rx
    have e' : k = false := e
    subst e'
    exact truthy_none ⟨H, I, q⟩
  | bl b =>
    cases rx
    have e' : k = b := e
    subst e'
    exact wpAny_truthy_bool ⟨H, I, q⟩
  | int i =>
    obtain ⟨t, rfl⟩ := rx
    have e' : k = (i != 0) := e
    subst e'
    exact PySem.P.truthy_int ⟨H, I, q⟩
  | str y =>
    obtain ⟨t, rfl⟩ := rx
    obtain ⟨hy, e'⟩ : y.length ≤ sizeLine ∧ k = ((y.length : Int) != 0) := e
    subst e'
    exact PySem.P.truthy_str (by omega) ⟨H, I.tok _, q⟩
  | byt y =>
    obtain ⟨t, rfl⟩ := rx
    obtain ⟨hy, e'⟩ : y.size ≤ sizeLine ∧ k = ((y.size : Int) != 0) := e
    subst e'
    exact PySem.W.truthy_bytes (by omega) ⟨H, I.tok _, q⟩
  | ref p =>
    cases rx
    have e' : (∃ xs, SqL X.K H p xs ∧ k = !xs.isEmpty) ∨ (∃ xs, SqT X.K H p xs ∧ k = !xs.isEmpty) ∨ ∃ kvs, H p = some (.dK kvs) ∧ k = !kvs.isEmpty := e
    rcases e' with ⟨xs, hx, e'⟩ | ⟨xs, hx, e'⟩ | ⟨kvs, hx, e'⟩
    · subst e'
      obtain ⟨its, r, pl, hz⟩ := I.list hx
      have hlen := r.length
      exact wpAny_truthy_list pl.isList (by simp only [List.size_toArray]; omega) ⟨H, I.tok _, by rw [isEmpty_of r]; exact q⟩
    · subst e'
      obtain ⟨its, r, pl, hz⟩ := I.tuple hx
      have hlen := r.length
      exact truthy_tuple pl (by simp only [List.size_toArray]; omega) ⟨H, I.tok _, by rw [isEmpty_of r]; exact q⟩
    · subst e'
      obtain ⟨hz, hS, vs, r, m⟩ : kvs.length ≤ sizeLine ∧ (p == sysModules) = false ∧ ∃ vs, KV kvs vs ∧ s.heap.DictOf (mixKind X.prog X.w) p vs := I.hok p _ hx
      have hlen : kvs.length = vs.length := Paired.length r
      exact wpAny_truthy_dict hS m (by omega) ⟨H, I.tok _, by rw [isEmpty_kv r]; exact q⟩
  | _ => exact (show False from e).elim
theorem pt_truth (ha : PE X a ta) (he : ∀ whole, isTrue a X.env whole = (do let v ← whole; standAt a.pos; holding [v] (truthy v))) :
    PT X a (fun σ H Q => ta σ H fun x H' => ∃ k, TruV X.K x H' k ∧ Q k H') := by
  intro pins s σ H Q I h
  exact isTrue_plain (thn (ha pins s σ H _ I h) fun v s1 ⟨x, H1, I1, r1, q1⟩ => tru_ok pins s1 σ H1 x v Q I1 r1 q1) (he _)
theorem vals1 {x : V} {us : List Value} (r : Vals [x] us) : ∃ u, us = [u] ∧ RelV x u := by
  cases r with
  | cons r1 r2 => cases r2; exact ⟨_, rfl, r1⟩
theorem vals2 {x y : V} {us : List Value} (r : Vals [x, y] us) : ∃ u w', us = [u, w'] ∧ RelV x u ∧ RelV y w' := by
  cases r with
  | cons r1 r2 =>
    cases r2 with
    | cons r3 r4 => cases r4; exact ⟨_, _, rfl, r1, r3⟩
theorem call_max2 (hc : X.calm = true) : CallR X (.builtin "max") (fun xs H Q => ∃ i j, xs = [.int i, .int j] ∧ Q (.int (if j > i then j else i)) H) := by
  intro pins s σ H xs us Q I r h
  obtain ⟨i, j, rfl, q⟩ := h
  obtain ⟨u, w', rfl, ⟨t, rfl⟩, ⟨t', rfl⟩⟩ := vals2 r
  refine max_two_ints (I.ok.hd hc) fun h' tk k => ⟨_, H, I.kept k, ?_, q⟩
  by_cases hj : j > i
  · rw [if_pos hj, if_pos hj]; exact ⟨_, rfl⟩
  · rw [if_neg hj, if_neg hj]; exact ⟨_, rfl⟩
theorem call_min2 (hc : X.calm = true) : CallR X (.builtin "min") (fun xs H Q => ∃ i j, xs = [.int i, .int j] ∧ Q (.int (if j < i then j else i)) H) := by
  intro pins s σ H xs us Q I r h
  obtain ⟨i, j, rfl, q⟩ := h
  obtain ⟨u, w', rfl, ⟨t, rfl⟩, ⟨t', rfl⟩⟩ := vals2 r
  refine min_two_ints (I.ok.hd hc) fun h' tk k => ⟨_, H, I.kept k, ?_, q⟩
  by_cases hj : j < i
  · rw [if_pos hj, if_pos hj]; exact ⟨_, rfl⟩
  · rw [if_neg hj, if_neg hj]; exact ⟨_, rfl⟩
end
end L2
namespace L2
open PySem PySem.Spec PyProof.Rows
structure ObjM (h : Heap) (x dx C : Addr) (mA : Str → Option Value) : Prop where
  obj : h.get? x = some (PySem.W.instObj C dx)
  ns : h.Ns1 dx mA
  ne : dx ≠ x
theorem lookIn_ns {h : Heap} {dx : Addr} {mA : Str → Option Value} (n : h.Ns1 dx mA) : ∃ od, h.get? dx = some od ∧ ∀ name, PySem.W.lookIn name od = some (mA name) := by
  obtain ⟨o, es, ep, ho, hd, hk, _, hm⟩ := n
  refine ⟨o, ho, fun name => ?_⟩
  have e := hm name
  unfold nsFind findBy at e
  rw [← Array.find?_toList] at e
  unfold PySem.W.lookIn
  rw [hd]
  dsimp only
  split
  · rename_i y q
    rw [q] at e
    exact congrArg some e
  · rename_i q
    rw [q] at e
    have a : es.toList.any (·.refKey) = false := by
      rw [List.any_eq_false]
      intro y hy
      obtain ⟨z, t, hkey⟩ := hk y (Array.mem_toList_iff.mp hy)
      simp [DictEntry.refKey, hkey]
    have a' : ¬ es.toList.any (·.refKey) = true := by rw [a]; exact Bool.false_ne_true
    rw [if_neg a']
    exact congrArg some e
theorem ObjM.look {h : Heap} {x dx C : Addr} {mA : Str → Option Value} (I : ObjM h x dx C mA) : ∃ od, PySem.W.InstAt h x (PySem.W.instObj C dx) C (some od) ∧ ∀ name, PySem.W.lookIn name od = some (mA name) :=
  let ⟨od, ho, hl⟩ := lookIn_ns I.ns
  ⟨od, ⟨I.obj, rfl, rfl, ho⟩, hl⟩
section
variable {prog : Program} {w : World} {A : Around} {E : Value → Shared → Prop} {s : Shared} {K : PySem.W.Frag} {x dx C f : Addr} {mA : Str → Option Value} {name : Str} {v : Value}
theorem get_map {expr : Bool} {Q : Value → Shared → Prop} (X : K.In s.heap) (I : ObjM s.heap x dx C mA) (hg : PySem.W.plainGet K C name = true) (hh : PySem.W.hasDictIn K C = true)
    (ha : PySem.W.findIn K (.ref C) name = some none) (hv : mA name = some v) (hv' : PySem.W.handedIn v = true) (h : Q v { s with toks := s.toks + 1 }) :
    wpAny (model prog w) A (getAttr (.ref x) name expr) Q E s := by
  obtain ⟨od, J, hl⟩ := I.look
  exact PySem.W.get_value X J (PySem.W.plainGet_of hg).1 (PySem.W.findObj_own hh ha rfl (by rw [hl, hv])) hv' h
theorem get_meth {pl : Sem Bool} {Q : Value × List Value → Shared → Prop} (X : K.In s.heap) (I : ObjM s.heap x dx C mA) (hg : PySem.W.plainGet K C name = true)
    (hf : PySem.W.findIn K (.ref C) name = some (some (.ref f))) (ht : PySem.W.isFn K (.ref f) = true) (hv : mA name = none) (h : Q (.ref f, [.ref x]) s) :
    wpAny (model prog w) A (getMethod (.ref x) name pl) Q E s := by
  obtain ⟨od, J, hl⟩ := I.look
  exact PySem.W.method_fn X J (PySem.W.plainGet_of hg).1 (PySem.W.plainGet_of hg).2 hf (beq_iff_eq.mp ht) (by show (PySem.W.lookIn name od).map (·.isSome) = some false; rw [hl, hv]; rfl) h
theorem set_map {ns : List Str} {Q : Unit → Shared → Prop} (X : K.In s.heap) (I : ObjM s.heap x dx C mA)
    (hs : PySem.W.findIn K (.ref C) "__setattr__" = some (some (.builtin "object.__setattr__"))) (hp : PySem.W.plainOver K C = true) (ht : PySem.W.takerIn K C name = some none) (hh : PySem.W.hasDictIn K C = true)
    (hw : PySem.Within mA ns) (hsz : ns.length ≤ sizeLine)
    (h : ∀ h', ObjM h' x dx C (fun y => if y = name then some v else mA y) → Heap.SameBut dx s.heap h' → Q () { s with heap := h', toks := s.toks + 2 }) :
    wpAny (model prog w) A (setAttr (.ref x) name v) Q E s := by
  obtain ⟨od, J, hl⟩ := I.look
  refine PySem.W.set_plain X J hs (PySem.W.osa_open (s := { s with toks := s.toks + 1 }) (r := none) X J hp ht fun b => ?_)
  obtain ⟨cd, hc, hd'⟩ := PySem.W.any_some hh
  have hx : s.heap.get? x = some ⟨.ref C, some dx, .plain, #[]⟩ := I.obj
  refine wpAny_bind (wpAny_pure (wpAny_bind (wpAny_bind (wpAny_loadPart hx (wpAny_bind (PySem.W.Looks.here (s := { s with toks := s.toks + 1 }) (PySem.W.looks_clsIn X hc) ?_))))))
  rw [hd']
  refine wpAny_pure (a := some dx) (wpAny_bind (wpAny_pure (wpAny_bind ?_)))
  refine wpAny_nsSet1 (s := { s with toks := s.toks + 1 }) I.ns fun h' hn2 hs2 => ?_
  obtain ⟨oD, esD, epD, hoD, hdD, hcD⟩ := hn2.count (PySem.Within.cons name v hw)
  refine wpAny_bind (wpAny_lookBehind hoD (by rw [hdD]; exact pastItsLine_dict (Nat.le_trans hcD (by rw [List.length_cons]; omega))) ?_)
  exact wpAny_pure (h _ ⟨(hs2.2 _ (Ne.symm I.ne)).trans I.obj, hn2, I.ne⟩ hs2)
theorem make_map {R : Result → Shared → Prop} {vs : List Value} {kw : List (Str × Value)} (X : K.In s.heap) (hm : PySem.W.makesIn K C = true)
    (hi : PySem.W.findIn K (.ref C) "__init__" = some (some (.ref f))) (hf : PySem.W.typeIn K (.ref f) = some (.type "function"))
    (h : codeAny (model prog w) (A.under (.builtin "type.__call__" ⟨.ref C :: vs, kw⟩)) (.call (.ref f) ⟨.ref (s.heap.objs.size + 1) :: vs, kw⟩) (PySem.W.InitBack (s.heap.objs.size + 1) R)
      { s with heap := (s.heap.push PySem.W.emptyDict).push (PySem.W.instObj C s.heap.objs.size) }) :
    codeAny (model prog w) A (.call (.ref C) ⟨vs, kw⟩) R s := by
  obtain ⟨hh, g, d, t, os⟩ := s
  exact PySem.W.make_core (PySem.W.makes_of X hm) (PySem.W.looks_findIn X hi) (fun self => PySem.W.bind_fn X self hf) (.inl rfl) h
end
def putF (f : Str) (v : V) : List (Str × V) → List (Str × V)
  | [] => [(f, v)]
  | (g, x) :: r => if g = f then (g, v) :: r else (g, x) :: putF f v r
theorem lookup_putF (f g : Str) (v : V) : ∀ fs : List (Str × V), (putF f v fs).lookup g = if g = f then some v else fs.lookup g
  | [] => by
    show List.lookup g [(f, v)] = _
    by_cases h : g = f
    · have hb : (g == f) = true := beq_iff_eq.mpr h
      simp only [List.lookup, hb, if_pos h]
    · have hb : (g == f) = false := beq_eq_false_iff_ne.mpr h
      simp only [List.lookup, hb, if_neg h]
  | (k, x) :: r => by
    have ih := lookup_putF f g v r
    rw [show putF f v ((k, x) :: r) = (if k = f then (k, v) :: r else (k, x) :: putF f v r) from rfl]
    by_cases hk : k = f
    · rw [if_pos hk]
      by_cases h : g = k
      · have hb : (g == k) = true := beq_iff_eq.mpr h
        simp only [List.lookup, hb, if_pos (h.trans hk)]
      · have hb : (g == k) = false := beq_eq_false_iff_ne.mpr h
        simp only [List.lookup, hb, if_neg (fun e : g = f => h (e.trans hk.symm))]
    · rw [if_neg hk]
      by_cases h : g = k
      · have hb : (g == k) = true := beq_iff_eq.mpr h
        simp only [List.lookup, hb, if_neg (fun e : g = f => hk (h.symm.trans e))]
      · have hb : (g == k) = false := beq_eq_false_iff_ne.mpr h
        simp only [List.lookup, hb]
        exact ih
theorem keys_putF (f : Str) (v : V) : ∀ fs : List (Str × V), f ∈ (putF f v fs).map (·.1) ∧ ∀ g, g ∈ fs.map (·.1) → g ∈ (putF f v fs).map (·.1)
  | [] => ⟨by simp [putF], fun g h => by simp at h⟩
  | (k, x) :: r => by
    obtain ⟨i1, i2⟩ := keys_putF f v r
    rw [show putF f v ((k, x) :: r) = (if k = f then (k, v) :: r else (k, x) :: putF f v r) from rfl]
    by_cases hk : k = f
    · rw [if_pos hk]
      subst hk
      exact ⟨by simp, fun g h => by simpa using h⟩
    · rw [if_neg hk]
      refine ⟨?_, fun g h => ?_⟩
      · rw [List.map_cons]
        exact List.mem_cons_of_mem _ i1
      · rw [List.map_cons] at h ⊢
        rcases List.mem_cons.mp h with e | e
        · exact List.mem_cons.mpr (.inl e)
        · exact List.mem_cons_of_mem _ (i2 g e)
theorem length_putF (f : Str) (v : V) : ∀ fs : List (Str × V), (putF f v fs).length ≤ fs.length + 1
  | [] => by simp [putF]
  | (k, x) :: r => by
    have ih := length_putF f v r
    rw [show putF f v ((k, x) :: r) = (if k = f then (k, v) :: r else (k, x) :: putF f v r) from rfl]
    by_cases hk : k = f
    · rw [if_pos hk, List.length_cons, List.length_cons]; omega
    · rw [if_neg hk, List.length_cons, List.length_cons]; omega
theorem RelO.some_of {v : V} {o : Option Value} (r : RelO (some v) o) : ∃ u, o = some u ∧ RelV v u := by
  cases o with
  | none => exact (show False from r).elim
  | some u => exact ⟨u, rfl, r⟩
theorem RelO.none_of {o : Option Value} (r : RelO none o) : o = none := by
  cases o with
  | none => rfl
  | some u => exact (show False from r).elim
theorem handed_of {v : V} {u : Value} (r : RelV v u) : PySem.W.handedIn u = true := by
  cases v with
  | non => cases (show u = Value.none from r); rfl
  | bl b => cases (show u = Value.bool b from r); rfl
  | int i => obtain ⟨t, e⟩ := (show ∃ t, u = Value.int i t from r); cases e; rfl
  | str x => obtain ⟨t, e⟩ := (show ∃ t, u = Value.str x t from r); cases e; rfl
  | byt b => obtain ⟨t, e⟩ := (show ∃ t, u = Value.bytes b t from r); cases e; rfl
  | flt b => obtain ⟨t, e⟩ := (show ∃ t, u = Value.float b t from r); cases e; rfl
  | ref a => cases (show u = Value.ref a from r); rfl
  | ty n => cases (show u = Value.type n from r); rfl
section
variable {P : Program} {w : World} {H H' : Hp} {h h' : Heap} {a C dx : Addr} {fs fs' : List (Str × V)}
theorem ins_get (hok : HOk P w H h) (e : H a = some (.ins C dx fs)) : ∃ mA, ObjM h a dx C mA ∧ (∀ f, RelO (fs.lookup f) (mA f)) ∧ PySem.Within mA (fs.map (·.1)) ∧ fs.length ≤ 1000 ∧ H dx = some (.own a) := by
  obtain ⟨d, z, ne, ob, mA, n, r, q⟩ := (show ObjOk P w H h a (.ins C dx fs) from hok a _ e)
  exact ⟨mA, ⟨ob, n, ne⟩, r, q, z, d⟩
end
structure Cls (K : PySem.W.Frag) (C : Addr) : Prop where
  pg : PySem.W.plainGet K C Str.empty = true
  hd : PySem.W.hasDictIn K C = true
  po : PySem.W.plainOver K C = true
  sa : PySem.W.findIn K (.ref C) "__setattr__" = some (some (.builtin "object.__setattr__"))
theorem Cls.get {K : PySem.W.Frag} {C : Addr} (c : Cls K C) (f : Str) : PySem.W.plainGet K C f = true := c.pg
def NoAttr (K : PySem.W.Frag) (C : Addr) (f : Str) : Prop := PySem.W.findIn K (.ref C) f = some none
theorem NoAttr.taker {K : PySem.W.Frag} {C : Addr} {f : Str} (n : NoAttr K C f) : PySem.W.takerIn K C f = some none := by
  unfold PySem.W.takerIn
  rw [show PySem.W.findIn K (.ref C) f = some none from n]
  rfl
structure Meth (K : PySem.W.Frag) (C : Addr) (m : Str) (f : Addr) : Prop where
  at_ : PySem.W.findIn K (.ref C) m = some (some (.ref f))
  fn : PySem.W.isFn K (.ref f) = true
  kp : PySem.W.keepIn K (.ref f) = true
section
variable {X : Cx} {pins : List (Addr × Obj)} {σ : St} {H : Hp} {s : Shared} {a C dx : Addr} {fs : List (Str × V)} {f : Str} {v : V} {A : Around} {E : Value → Shared → Prop}
theorem getattr_ok {b : Bool} {Q : Value → Shared → Prop} (I : Inv X pins σ H s) (e : H a = some (.ins C dx fs)) (c : Cls X.K C) (n : NoAttr X.K C f) (l : fs.lookup f = some v)
    (h : ∀ u s', Inv X pins σ H s' → RelV v u → Q u s') : wpAny (model X.prog X.w) A (getAttr (.ref a) f b) Q E s := by
  obtain ⟨mA, O, r, _, _, _⟩ := ins_get I.hok e
  obtain ⟨u, hu, ru⟩ := RelO.some_of (v := v) (o := mA f) (by rw [← l]; exact r f)
  exact get_map I.kIn O (c.get f) c.hd n hu (handed_of ru) (h u _ (I.tok _) ru)
theorem getmeth_ok {m : Str} {g : Addr} {pl : Sem Bool} {Q : Value × List Value → Shared → Prop} (I : Inv X pins σ H s) (e : H a = some (.ins C dx fs)) (c : Cls X.K C) (k : Meth X.K C m g) (l : fs.lookup m = none)
    (h : Q (.ref g, [.ref a]) s) : wpAny (model X.prog X.w) A (getMethod (.ref a) m pl) Q E s := by
  obtain ⟨mA, O, r, _, _, _⟩ := ins_get I.hok e
  have hn : mA m = none := RelO.none_of (by rw [← l]; exact r m)
  exact get_meth I.kIn O (c.get m) k.at_ k.fn hn h
theorem setattr_ok {y : V} {u : Value} {Q : Unit → Shared → Prop} (I : Inv X pins σ H s) (e : H a = some (.ins C dx fs)) (c : Cls X.K C) (n : NoAttr X.K C f) (hl : fs.length < 1000) (ry : RelV y u)
    (h : ∀ s', Inv X pins σ (upd H a (.ins C dx (putF f y fs))) s' → Q () s') : wpAny (model X.prog X.w) A (setAttr (.ref a) f u) Q E s := by
  obtain ⟨mA, O, r, wi, _, ho⟩ := ins_get I.hok e
  have hz : (fs.map (·.1)).length ≤ sizeLine := by rw [List.length_map, sizeLine_eq]; omega
  refine set_map I.kIn O c.sa c.po n.taker c.hd wi hz fun h' O' sb => h _ ?_
  have hd : ∃ o, h'.get? dx = some o := let ⟨o, _, _, e', _⟩ := O'.ns; ⟨o, e'⟩
  refine I.write (x := a) (e := dx) (by rw [e]; exact True.intro) (.inr ho) (fun b q hb z => (sb.2 b hb).trans z) hd ?_
  refine ⟨by rw [upd_ne O.ne]; exact ho, ?_, O.ne, O'.obj, _, O'.ns, fun g => ?_, fun g hg => ?_⟩
  · have := length_putF f y fs; omega
  · show RelO ((putF f y fs).lookup g) (if g = f then some u else mA g)
    rw [lookup_putF]
    by_cases q : g = f
    · rw [if_pos q, if_pos q]; exact ry
    · rw [if_neg q, if_neg q]; exact r g
  · by_cases q : g = f
    · rw [q]; exact (keys_putF f y fs).1
    · refine (keys_putF f y fs).2 g (wi g fun z => hg ?_)
      show (if g = f then some u else mA g) = none
      rw [if_neg q]; exact z
theorem Inv.made (I : Inv X pins σ H s) : Inv X pins σ (upd (upd H s.heap.objs.size (.own (s.heap.objs.size + 1))) (s.heap.objs.size + 1) (.ins C s.heap.objs.size []))
    { s with heap := (s.heap.push PySem.W.emptyDict).push (PySem.W.instObj C s.heap.objs.size) } := by
  have e1 : (s.heap.push PySem.W.emptyDict).get? s.heap.objs.size = some PySem.W.emptyDict := Heap.get?_push_size s.heap rfl
  have e2 : ((s.heap.push PySem.W.emptyDict).push (PySem.W.instObj C s.heap.objs.size)).get? (s.heap.objs.size + 1) = some (PySem.W.instObj C s.heap.objs.size) := by
    have := Heap.get?_push_size (s.heap.push PySem.W.emptyDict) (o := PySem.W.instObj C s.heap.objs.size) rfl
    rwa [Heap.size_push] at this
  have e3 : (s.heap.push PySem.W.emptyDict).Ns s.heap.objs.size (fun _ => none) := ⟨PySem.W.emptyDict, #[], _, e1, rfl, (fun e he => absurd he (by simp)), fun _ => rfl⟩
  have I1 := I.laid (a := s.heap.objs.size) (o := .own (s.heap.objs.size + 1)) (h' := s.heap.push PySem.W.emptyDict) (t' := s.toks) (fun b u q => Heap.get?_push_of_some _ q) (Nat.le_refl _) ⟨_, e1⟩
  refine I1.laid (a := s.heap.objs.size + 1) (o := .ins C s.heap.objs.size []) (t' := s.toks) (fun b u q => Heap.get?_push_of_some _ q) (Nat.le_of_eq (Heap.size_push _ _)) ?_
  have ne : s.heap.objs.size ≠ s.heap.objs.size + 1 := Nat.ne_of_lt (Nat.lt_succ_self _)
  refine ⟨by rw [upd_ne ne, upd_same], Nat.zero_le _, ne, e2, fun _ => none, (Heap.Ns1.of_empty e3).at fun o q => Heap.get?_push_of_some _ q, fun _ => True.intro, fun y hy => absurd rfl hy⟩
theorem attr_of {prog : Program} {w : World} {env : Env} {e : Expr} {f : Str} {pos : Pos} {s : Shared} {Q : Value → Shared → Prop} (hb : attributeBase e f env (eval e env) = eval e env)
    (h : wpAny (model prog w) A (eval e env) (fun o s₁ => wpAny (model prog w) A (getAttr o f true) Q E s₁) E s) : wpAny (model prog w) A (eval (.Attribute e f pos) env) Q E s :=
  Attribute_any_ h (by rw [arm_eval_Attribute, hb])
end
def tFld (K : PySem.W.Frag) (ta : TE) (f : Str) : TE := fun σ H Q => ta σ H fun x H1 => ∃ a C dx fs v, x = .ref a ∧ H1 a = some (.ins C dx fs) ∧ Cls K C ∧ NoAttr K C f ∧ fs.lookup f = some v ∧ Q v H1
def sFld (K : PySem.W.Frag) (ta tv : TE) (f : Str) : TS := fun D σ H => tv σ H fun y H1 => ta σ H1 fun x H2 => ∃ a C dx fs, x = .ref a ∧ H2 a = some (.ins C dx fs) ∧ Cls K C ∧ NoAttr K C f ∧ fs.length < 1000 ∧
  D.nx σ (upd H2 a (.ins C dx (putF f y fs)))
section
variable {X : Cx} {o e value : Expr} {f : Str} {pos pos' tpos : Pos} {ta tv : TE}
theorem pe_fld (he : PE X e ta) (hb : attributeBase e f X.env (eval e X.env) = eval e X.env) : PE X (.Attribute e f pos) (tFld X.K ta f) := by
  intro pins s σ H Q I h
  refine attr_of hb (thn (he pins s σ H _ I h) fun u s1 ⟨x, H1, I1, rx, a, C, dx, fs, v, ex, ea, c, n, l, q⟩ => ?_)
  subst ex
  obtain rfl : u = Value.ref a := rx
  exact getattr_ok I1 ea c n l fun u' s2 I2 ru => ⟨v, H1, I2, ru, q⟩
theorem ps_fld (ha : PE X o ta) (hv : PE X value tv) (hs : swapsWith value (some (.Attribute o f pos')) pos.line X.env = pure false) : PS X (.Assign [.Attribute o f pos'] value pos) (sFld X.K ta tv f) := by
  intro pins s σ H D I h
  refine plainObj_wpAny_Assign_Attribute (thn (hv pins s σ H _ I h) fun u s1 ⟨y, H1, I1, ry, q⟩ => thn (ha pins s1 σ H1 _ I1 q) fun ov s2 ⟨x, H2, I2, rx, a, C, dx, fs, ex, ea, c, n, l, q2⟩ => ?_) hs
  subst ex
  obtain rfl : ov = Value.ref a := rx
  exact setattr_ok I2 ea c n l ry fun s3 I3 => ⟨σ, _, I3, q2⟩
theorem methcall_of {pl : Sem Bool} {m : Str} {apos : Pos} {args : List Expr} {pins : List (Addr × Obj)} {s : Shared} {σ : St} {H : Hp} {Q : Value → Shared → Prop} {te : TE} (he : PE X e te) (I : Inv X pins σ H s)
    (h : te σ H fun x H1 => ∃ a C dx fs g, x = .ref a ∧ H1 a = some (.ins C dx fs) ∧ Cls X.K C ∧ Meth X.K C m g ∧ fs.lookup m = none ∧
      ∀ s1, Inv X pins σ H1 s1 → wpAny (model X.prog X.w) X.A (callWith pos (.ref g) [.ref a] (backTo pos (starEach args X.env)) (backToKw pos (keywordEach [] X.env))) Q X.xe s1)
    (ht : eval (.Call (.Attribute e m apos) args [] pos) X.env = (do
      let ov ← eval e X.env
      standAt apos.atName
      let (f, first) ← holding [ov] (getMethod ov m pl)
      callWith pos f first (backTo pos (starEach args X.env)) (backToKw pos (keywordEach [] X.env)))) :
    wpAny (model X.prog X.w) X.A (eval (.Call (.Attribute e m apos) args [] pos) X.env) Q X.xe s := by
  refine PySem.W.methodCall_KW (pl := pl) (thn (he pins s σ H _ I h) fun u s1 ⟨x, H1, I1, rx, a, C, dx, fs, g, ex, ea, c, k, l, q⟩ => ?_) ht
  subst ex
  obtain rfl : u = Value.ref a := rx
  exact getmeth_ok I1 ea c k l (q s1 I1)
end
end L2
namespace L2
open PySem PySem.Spec PyProof.Rows
structure Room (k : Nat) (A : Around) : Prop where
  hd : A.handled = none
  dp : A.depth + 3 * k + 5 < recursionLimit
  un : A.units + 16 * k + 200 < cLine
  gd : A.guards = some []
theorem Room.mono {j k : Nat} {A : Around} (r : Room k A) (h : j ≤ k) : Room j A := ⟨r.hd, by have := r.dp; omega, by have := r.un; omega, r.gd⟩
theorem Room.deeper {k : Nat} {A : Around} (r : Room (k + 1) A) (env : Env) : Room k (A.deeper env) :=
  ⟨r.hd, by have := r.dp; show A.depth + 1 + 3 * k + 5 < _; omega, by have := r.un; show A.units + 3 + 16 * k + 200 < _; omega, r.gd⟩
theorem make_depth {A : Around} {C : Addr} {us : List Value} {kw : List (Str × Value)} : (A.under (.builtin "type.__call__" ⟨.ref C :: us, kw⟩)).depth = A.depth + 1 := by
  first | rfl | simp [Around.under, Code.weight, Code.isCreation, Code.isGuard, Code.isCaller, Code.frames, Code.isFrame, guardIds]
theorem make_units {A : Around} {C : Addr} {us : List Value} {kw : List (Str × Value)} : (A.under (.builtin "type.__call__" ⟨.ref C :: us, kw⟩)).units = A.units + 1 := by
  first | rfl | simp [Around.under, Code.cUnits, Code.frames, Code.isFrame]
theorem make_guards {A : Around} {C : Addr} {us : List Value} {kw : List (Str × Value)} : (A.under (.builtin "type.__call__" ⟨.ref C :: us, kw⟩)).guards = A.guards := by
  first | rfl | simp [Around.under, Code.guards, pushGuards, Code.isGuard, guardIds] | (unfold Around.under; cases A.guards <;> rfl)
theorem Room.make {k : Nat} {A : Around} (r : Room (k + 1) A) (C : Addr) (us : List Value) (kw : List (Str × Value)) : Room k (A.under (.builtin "type.__call__" ⟨.ref C :: us, kw⟩)) :=
  ⟨r.hd, by have := r.dp; rw [make_depth]; omega, by have := r.un; rw [make_units]; omega, by rw [make_guards]; exact r.gd⟩
theorem Room.depth {k : Nat} {A : Around} (r : Room k A) : A.depth < recursionLimit := by have := r.dp; omega
theorem Room.units {k : Nat} {A : Around} (r : Room k A) : A.units + 64 < cLine := by have := r.un; omega
def tNil : TA := fun _ H Q => Q [] H
def tCons (ta : TE) (tr : TA) : TA := fun σ H Q => ta σ H fun x H1 => tr σ H1 fun xs H2 => Q (x :: xs) H2
section
variable {X : Cx} {e : Expr} {es : List Expr} {te : TE} {t : TA} {pos : Pos}
theorem pa_nil : PA X [] tNil := fun _ _ _ _ H Q I h => Calls.spliced_nil ⟨[], H, I, .nil, h⟩
theorem pa_cons (ha : PE X e te) (hr : PA X es t) (hs : starEach (e :: es) X.env = (false, eval e X.env) :: starEach es X.env := by rfl) : PA X (e :: es) (tCons te t) := by
  intro pos pins s σ H Q I h
  rw [hs]
  show wpAny _ _ (spliced ((false, eval e X.env) :: backTo pos (starEach es X.env))) _ _ s
  refine Calls.spliced_cons (thn (ha pins s σ H _ I h) fun u s1 ⟨x, H1, I1, r1, q1⟩ => ?_)
  exact thn (hr pos pins s1 σ H1 _ I1 q1) fun us s2 ⟨xs, H2, I2, r2, q2⟩ => ⟨x :: xs, H2, I2, .cons r1 r2, q2⟩
def tTup (t : TA) : TE := fun σ H Q => t σ H fun xs H1 => xs.length ≤ sizeLine ∧ ∀ p, H1 p = none → Q (.ref p) (upd H1 p (.tup xs))
def tLst (t : TA) : TE := fun σ H Q => t σ H fun xs H1 => xs.length ≤ sizeLine ∧ ∀ p, H1 p = none → Q (.ref p) (upd H1 p (.lst xs))
theorem pe_tup {x1} (h : PA X es t) : PE X (.Tuple es x1 pos) (tTup t) := by
  intro pins s σ H Q I hq
  refine wpAny_Tuple_spliced (thn (h pos pins s σ H _ I hq) fun us s1 ⟨xs, H1, I1, r, z, q⟩ => ⟨by rw [← r.length]; exact z, ?_⟩)
  have hf : H1 s1.heap.objs.size = none := I1.hok.fresh (Nat.le_refl _)
  refine ⟨.ref s1.heap.objs.size, upd H1 s1.heap.objs.size (.tup xs), I1.laid (t' := s1.toks) (fun b u e => Heap.get?_push_of_some _ e) (Nat.le_refl _) ?_, rfl, q _ hf⟩
  exact ⟨z, us, r, ⟨_, Heap.get?_push_size _ rfl, rfl, _, rfl⟩⟩
theorem pe_lst (h : PA X es t) : PE X (.List es pos) (tLst t) := by
  intro pins s σ H Q I hq
  refine wpAny_List_spliced (thn (h pos pins s σ H _ I hq) fun us s1 ⟨xs, H1, I1, r, z, q⟩ => ⟨by rw [← r.length]; exact z, ?_⟩)
  have hf : H1 s1.heap.objs.size = none := I1.hok.fresh (Nat.le_refl _)
  refine ⟨.ref s1.heap.objs.size, upd H1 s1.heap.objs.size (.lst xs), I1.laid (t' := s1.toks) (fun b u e => Heap.get?_push_of_some _ e) (Nat.le_refl _) ?_, rfl, q _ hf⟩
  exact ⟨z, us, 0, r, Heap.get?_push_size _ rfl⟩
end
abbrev Sp := List V → Hp → VK → XK → Prop
abbrev CXT := List Env → Hp → Shared → XK → Value → Shared → Prop
structure Env0 (P : Program) (w : World) (K : PySem.W.Frag) (mg : Str → Option Value) (base : Heap) (A : Around) (outer : List Env) (s : Shared) (H : Hp) : Prop where
  frames : A.frames = some outer
  mod : Mod K mg base
  bs : ∀ b o, base.get? b = some o → s.heap.get? b = some o ∧ H b = none
  bsz : base.objs.size ≤ s.heap.objs.size
  funs : s.heap.FunFrames base outer
  frf : ∀ b ∈ frs outer, H b = none
  hok : HOk P w H s.heap
  bare : AllBare s.gens
def CE (outer : List Env) (P : Program) (w : World) (H : Hp) (s : Shared) (Q : VK) (u : Value) (s' : Shared) : Prop :=
  ∃ v H', s'.os = s.os ∧ AllBare s'.gens ∧ Un (frs outer) [] H H' s.heap s'.heap ∧ HOk P w H' s'.heap ∧ RelV v u ∧ Q v H'
def CR (CX : CXT) (outer : List Env) (P : Program) (w : World) (H : Hp) (s : Shared) (Q : VK) (E : XK) (r : Result) (s' : Shared) : Prop :=
  match r with
  | .ok (.ret u) => CE outer P w H s Q u s'
  | .ok _ => False
  | .error e => CX outer H s E e s'
structure FnOk (P : Program) (w : World) (K : PySem.W.Frag) (mg : Str → Option Value) (base : Heap) (CX : CXT) (k : Nat) (f : Addr) (fd : FuncData) (ps : List Str) (sp : Sp) : Prop where
  len : ∀ vs H Q E, sp vs H Q E → vs.length = ps.length
  run : ∀ (A : Around) (outer : List Env) (s : Shared) (H : Hp) (args : Args) (us : List Value) (vs : List V) (Q : VK) (E : XK), Room k A → Env0 P w K mg base A outer s H → BindsTo s fd args (ps.zip us) → Vals vs us → sp vs H Q E →
    codeAny (model P w) A (.call (.ref f) args) (CR CX outer P w H s Q E) s
theorem FnOk.mono {P : Program} {w : World} {K : PySem.W.Frag} {mg : Str → Option Value} {base : Heap} {CX : CXT} {j k : Nat} {f : Addr} {fd : FuncData} {ps : List Str} {sp : Sp} (F : FnOk P w K mg base CX j f fd ps sp) (h : j ≤ k) :
    FnOk P w K mg base CX k f fd ps sp := ⟨F.len, fun A outer s H args us vs Q E hr => F.run A outer s H args us vs Q E (hr.mono h)⟩
theorem Env0.make {P : Program} {w : World} {K : PySem.W.Frag} {mg : Str → Option Value} {base : Heap} {A : Around} {outer : List Env} {s : Shared} {H : Hp} (e : Env0 P w K mg base A outer s H) (C : Addr) (us : List Value) (kw : List (Str × Value)) :
    Env0 P w K mg base (A.under (.builtin "type.__call__" ⟨.ref C :: us, kw⟩)) outer s H := ⟨by first | exact e.frames | (simpa [Around.under, Code.envs, Code.isFrame, pushEnvs] using e.frames), e.mod, e.bs, e.bsz, e.funs, e.frf, e.hok, e.bare⟩
section
variable {X : Cx} {pins : List (Addr × Obj)} {σ : St} {H : Hp} {s s' : Shared}
theorem Inv.env0 (I : Inv X pins σ H s) : Env0 X.prog X.w X.K X.mg X.base X.A X.stack s H :=
  ⟨I.ok.frames, I.ok.mod, I.bs, Nat.le_trans I.ok.bsz I.sz, I.stack, I.stkFree, I.hok, I.bare⟩
theorem Inv.after {Q : VK} {u : Value} (I : Inv X pins σ H s) (h : CE X.stack X.prog X.w H s Q u s') : EP X pins σ Q u s' := by
  obtain ⟨v, H', os, bare, un, hok, r, q⟩ := h
  obtain ⟨hh, g, d, t, os'⟩ := s'
  obtain rfl : os' = s.os := os
  exact ⟨v, H', I.call (h' := hh) (g' := g) (d' := d) (t' := t) (ch := []) un hok bare (fun b z => absurd z (by simp)), r, q⟩
end
def tCall (sp : Sp) (dvs : List V) (E : XK) (t : TA) : TE := fun σ H Q => t σ H fun vs H1 => sp (vs ++ dvs) H1 Q E
def tMeth (C : Addr) (m : Str) (sp : Sp) (dvs : List V) (E : XK) (ta : TE) (t : TA) : TE := fun σ H Q => ta σ H fun x H1 => ∃ a dx fs, x = .ref a ∧ H1 a = some (.ins C dx fs) ∧ fs.lookup m = none ∧
  t σ H1 fun vs H2 => sp (x :: (vs ++ dvs)) H2 Q E
def tMake (C : Addr) (sp : Sp) (dvs : List V) (E : XK) (t : TA) : TE := fun σ H Q => t σ H fun vs H1 => ∀ x dx, H1 x = none → H1 dx = none → dx ≠ x →
  sp (.ref x :: (vs ++ dvs)) (upd (upd H1 dx (.own x)) x (.ins C dx [])) (fun v H2 => v = .non ∧ Q (.ref x) H2) E
def Binds (K : PySem.W.Frag) (fd : FuncData) (ps : List Str) (ds : List Value) : Prop :=
  ∀ (s : Shared) (us : List Value), K.In s.heap → (us ++ ds).length = ps.length → BindsTo s fd ⟨us, []⟩ (ps.zip (us ++ ds))
theorem Binds.all {K : PySem.W.Frag} {fd : FuncData} {ps : List Str} (h : ∀ us : List Value, us.length = ps.length → bindArgs fd ⟨us, []⟩ = pure (ps.zip us)) : Binds K fd ps [] := fun s us _ hl => by
  rw [List.append_nil] at hl ⊢
  exact .of_eq (h us hl)
def Passes (CX : CXT) (X : Cx) (E : XK) : Prop := ∀ (pins : List (Addr × Obj)) (σ : St) (H : Hp) (s : Shared) (e : Value) (s' : Shared), Inv X pins σ H s → CX X.stack H s E e s' → X.xe e s'
section
variable {X : Cx} {CX : CXT} {k : Nat} {f C : Addr} {fd : FuncData} {ps : List Str} {sp : Sp} {dvs : List V} {ds : List Value} {E : XK} {x m : Str} {p pos apos : Pos} {e o : Expr} {es : List Expr} {ta : TE} {t : TA}
theorem run_fn {pins : List (Addr × Obj)} {σ : St} {H : Hp} {s : Shared} {Q : VK} {us : List Value} {vs : List V} (F : FnOk X.prog X.w X.K X.mg X.base CX k f fd ps sp) (hr : Room k X.A) (hb : Binds X.K fd ps ds) (hd : Vals dvs ds) (hx : Passes CX X E)
    (I : Inv X pins σ H s) (r : Vals vs us) (h : sp (vs ++ dvs) H Q E) : wpAny (model X.prog X.w) X.A (call (.ref f) us) (EP X pins σ Q) X.xe s := by
  have r2 : Vals (vs ++ dvs) (us ++ ds) := r.append hd
  have hl : (us ++ ds).length = ps.length := by rw [← r2.length]; exact F.len _ _ _ _ h
  refine wpAny_call (codeAny_mono (F.run X.A X.stack s H ⟨us, []⟩ (us ++ ds) (vs ++ dvs) Q E hr I.env0 (hb s us I.kIn hl) r2 h) fun r s' hq => ?_)
  cases r with
  | error e => exact hx pins σ H s e s' I hq
  | ok fl =>
    cases fl with
    | ret u => exact I.after hq
    | next => exact False.elim hq
    | brk => exact False.elim hq
    | cont => exact False.elim hq
theorem pe_call (F : FnOk X.prog X.w X.K X.mg X.base CX k f fd ps sp) (hr : Room k X.A) (hg : Gl X x) (hm : X.mg x = some (.ref f)) (hk : PySem.W.keepIn X.K (.ref f) = true) (hb : Binds X.K fd ps ds) (hd : Vals dvs ds) (hx : Passes CX X E)
    (ha : PA X (e :: es) t) (hdb : (x == ("__debug__" : Str)) = false := by decide) (he : starEach (e :: es) X.env = (false, eval e X.env) :: starEach es X.env := by rfl) (hpl : (backTo pos (starEach es X.env)).any (·.1) = false := by rfl) :
    PE X (.Call (.Name x p) (e :: es) [] pos) (tCall sp dvs E t) := by
  intro pins s σ H Q I h
  refine wpAny_Call_Name_kw (ld_glob I hg hm ?_ hdb)
  refine PySem.W.callWith_K (h₀ := X.base) I.ok.mod.kin hk (thn (ha pos pins s σ H _ I h) fun us s1 ⟨vs, H1, I1, r, q⟩ => ⟨I1.kIn, ?_⟩) he hpl
  exact run_fn F hr hb hd hx I1 r q
theorem pe_meth {pl : Sem Bool} (he : PE X o ta) (c : Cls X.K C) (hm : Meth X.K C m f) (F : FnOk X.prog X.w X.K X.mg X.base CX k f fd ps sp) (hr : Room k X.A) (hb : Binds X.K fd ps ds) (hd : Vals dvs ds) (hx : Passes CX X E) (ha : PA X (e :: es) t)
    (hst : starEach (e :: es) X.env = (false, eval e X.env) :: starEach es X.env := by rfl) (hpl : (backTo pos (starEach es X.env)).any (·.1) = false := by rfl)
    (ht : eval (.Call (.Attribute o m apos) (e :: es) [] pos) X.env = (do
      let ov ← eval o X.env
      standAt apos.atName
      let (f, first) ← holding [ov] (getMethod ov m pl)
      callWith pos f first (backTo pos (starEach (e :: es) X.env)) (backToKw pos (keywordEach [] X.env))) := by rfl) :
    PE X (.Call (.Attribute o m apos) (e :: es) [] pos) (tMeth C m sp dvs E ta t) := by
  intro pins s σ H Q I h
  refine PySem.W.methodCall_KW (pl := pl) (thn (he pins s σ H _ I h) fun u s1 ⟨x, H1, I1, rx, a, dx, fs, ex, ea, l, q⟩ => ?_) ht
  subst ex
  obtain rfl : u = Value.ref a := rx
  refine getmeth_ok I1 ea c hm l ?_
  refine PySem.W.callWith_K (first := [.ref a]) (h₀ := X.base) I.ok.mod.kin hm.kp (thn (ha pos pins s1 σ H1 _ I1 q) fun us s2 ⟨vs, H2, I2, r, q2⟩ => ⟨I2.kIn, ?_⟩) hst hpl
  exact run_fn (us := .ref a :: us) (vs := .ref a :: vs) F hr hb hd hx I2 (.cons rfl r) q2
structure Mk (K : PySem.W.Frag) (C f : Addr) : Prop where
  makes : PySem.W.makesIn K C = true
  init : PySem.W.findIn K (.ref C) "__init__" = some (some (.ref f))
  fn : PySem.W.isFn K (.ref f) = true
  kp : PySem.W.keepIn K (.ref C) = true
theorem run_make {pins : List (Addr × Obj)} {σ : St} {H : Hp} {s : Shared} {Q : VK} {us : List Value} {vs : List V} (M : Mk X.K C f) (F : FnOk X.prog X.w X.K X.mg X.base CX k f fd ps sp) (hr : Room (k + 1) X.A) (hb : Binds X.K fd ps ds) (hd : Vals dvs ds)
    (hx : Passes CX X E) (I : Inv X pins σ H s) (r : Vals vs us)
    (h : ∀ x dx, H x = none → H dx = none → dx ≠ x → sp (.ref x :: (vs ++ dvs)) (upd (upd H dx (.own x)) x (.ins C dx [])) (fun v H2 => v = .non ∧ Q (.ref x) H2) E) :
    wpAny (model X.prog X.w) X.A (call (.ref C) us) (EP X pins σ Q) X.xe s := by
  have hq := h (s.heap.objs.size + 1) s.heap.objs.size (I.hok.fresh (Nat.le_succ _)) (I.hok.fresh (Nat.le_refl _)) (Nat.ne_of_lt (Nat.lt_succ_self _))
  have I2 := Inv.made (C := C) I
  have r2 : Vals (V.ref (s.heap.objs.size + 1) :: (vs ++ dvs)) (Value.ref (s.heap.objs.size + 1) :: (us ++ ds)) := .cons rfl (r.append hd)
  have hl : (Value.ref (s.heap.objs.size + 1) :: us ++ ds).length = ps.length := by
    have e := r2.length
    rw [F.len _ _ _ _ hq] at e
    exact e.symm
  refine wpAny_call (make_map (f := f) I.kIn M.makes M.init (beq_iff_eq.mp M.fn) (codeAny_mono (F.run _ X.stack _ _ ⟨Value.ref (s.heap.objs.size + 1) :: us, []⟩ (Value.ref (s.heap.objs.size + 1) :: (us ++ ds)) _ _ E (hr.make C us [])
    (I2.env0.make C us []) (hb _ (Value.ref (s.heap.objs.size + 1) :: us) I2.kIn hl) r2 hq) fun r s' hq' => ?_))
  cases r with
  | error e => exact hx pins σ _ _ e s' I2 hq'
  | ok fl =>
    cases fl with
    | ret u =>
      obtain ⟨v, H', I3, rv, ev, q3⟩ := I2.after hq'
      subst ev
      exact ⟨rv, ⟨V.ref (s.heap.objs.size + 1), H', I3, rfl, q3⟩⟩
    | next => exact False.elim hq'
    | brk => exact False.elim hq'
    | cont => exact False.elim hq'
theorem pe_make (M : Mk X.K C f) (F : FnOk X.prog X.w X.K X.mg X.base CX k f fd ps sp) (hr : Room (k + 1) X.A) (hg : Gl X x) (hm : X.mg x = some (.ref C)) (hb : Binds X.K fd ps ds) (hd : Vals dvs ds) (hx : Passes CX X E)
    (ha : PA X (e :: es) t) (hdb : (x == ("__debug__" : Str)) = false := by decide) (he : starEach (e :: es) X.env = (false, eval e X.env) :: starEach es X.env := by rfl) (hpl : (backTo pos (starEach es X.env)).any (·.1) = false := by rfl) :
    PE X (.Call (.Name x p) (e :: es) [] pos) (tMake C sp dvs E t) := by
  intro pins s σ H Q I h
  refine wpAny_Call_Name_kw (ld_glob I hg hm ?_ hdb)
  refine PySem.W.callWith_K (h₀ := X.base) I.ok.mod.kin M.kp (thn (ha pos pins s σ H _ I h) fun us s1 ⟨vs, H1, I1, r, q⟩ => ⟨I1.kIn, ?_⟩) he hpl
  exact run_make M F hr hb hd hx I1 r q
end
structure FnScope (N P : List Str) (sc : Scope) : Prop where
  kind : sc.kind = .function
  co : sc.isCoroutine = false
  gen : sc.isGenerator = false
  nd : N.Nodup
  pre : N.take P.length = P
  par : ∀ x ∈ P, sc.names.lookup x = some .local ∨ sc.names.lookup x = some .cell
  nofree : ∀ y ∈ sc.names, y.2 ≠ .free
theorem bindL_out {kindOf : Str → Option NameKind} {x : Str} : ∀ {binds : List (Str × Value)} {m : Str → Option Value}, (∀ v, (x, v) ∉ binds) → bindL kindOf binds m x = m x
  | [], _, _ => rfl
  | (n, v) :: r, m, h => by
    unfold bindL
    rw [bindL_out fun w hw => h w (List.mem_cons_of_mem _ hw)]
    split
    · have : x ≠ n := by rintro rfl; exact h v List.mem_cons_self
      simp [this]
    · rfl
theorem bindC_out {kindOf : Str → Option NameKind} {x : Str} : ∀ {binds : List (Str × Value)} {m : Str → Option Value}, (∀ v, (x, v) ∉ binds) → bindC kindOf binds m x = m x
  | [], _, _ => rfl
  | (n, v) :: r, m, h => by
    unfold bindC
    rw [bindC_out fun w hw => h w (List.mem_cons_of_mem _ hw)]
    split
    · rfl
    · have : x ≠ n := by rintro rfl; exact h v List.mem_cons_self
      simp [this]
theorem bindL_get {kindOf : Str → Option NameKind} {x : Str} {v : Value} : ∀ {P : List Str} {vs : List Value} {i : Nat} {m : Str → Option Value}, P.Nodup → P[i]? = some x → vs[i]? = some v → kindOf x = some .local →
    bindL kindOf (P.zip vs) m x = some v
  | [], _, _, _, _, h, _, _ => by simp at h
  | _ :: _, [], _, _, _, _, h, _ => by simp at h
  | p :: P, w :: vs, 0, m, nd, h1, h2, hk => by
    simp at h1 h2; subst h1; subst h2
    show bindL kindOf ((p, w) :: P.zip vs) m p = _
    unfold bindL
    rw [bindL_out fun v hv => (List.nodup_cons.mp nd).1 (List.of_mem_zip hv).1, if_pos hk]
    simp
  | p :: P, w :: vs, i + 1, m, nd, h1, h2, hk => by
    show bindL kindOf ((p, w) :: P.zip vs) m x = _
    unfold bindL
    exact bindL_get (i := i) (List.nodup_cons.mp nd).2 (by simpa using h1) (by simpa using h2) hk
theorem bindC_get {kindOf : Str → Option NameKind} {x : Str} {v : Value} : ∀ {P : List Str} {vs : List Value} {i : Nat} {m : Str → Option Value}, P.Nodup → P[i]? = some x → vs[i]? = some v → kindOf x ≠ some .local →
    bindC kindOf (P.zip vs) m x = some v
  | [], _, _, _, _, h, _, _ => by simp at h
  | _ :: _, [], _, _, _, _, h, _ => by simp at h
  | p :: P, w :: vs, 0, m, nd, h1, h2, hk => by
    simp at h1 h2; subst h1; subst h2
    show bindC kindOf ((p, w) :: P.zip vs) m p = _
    unfold bindC
    rw [bindC_out fun v hv => (List.nodup_cons.mp nd).1 (List.of_mem_zip hv).1, if_neg hk]
    simp
  | p :: P, w :: vs, i + 1, m, nd, h1, h2, hk => by
    show bindC kindOf ((p, w) :: P.zip vs) m x = _
    unfold bindC
    exact bindC_get (i := i) (List.nodup_cons.mp nd).2 (by simpa using h1) (by simpa using h2) hk
def start (N : List Str) (vs : List V) : St := vs.map some ++ List.replicate (N.length - vs.length) none
def cxOf (CX : CXT) (P : Program) (w : World) (K : PySem.W.Frag) (mg : Str → Option Value) (base : Heap) (N : List Str) (qual : Str) (scope : Scope) (f : Addr) (cd : Value) (A : Around) (outer : List Env) (s : Shared) (H : Hp) (E : XK) : Cx where
  prog := P
  w := w
  K := K
  mg := mg
  base := base
  A := A.deeper (envOfC qual scope s.heap.objs.size f cd)
  N := N
  s₀ := s
  H₀ := H
  env := envOfC qual scope s.heap.objs.size f cd
  outer := outer
  stack := envOfC qual scope s.heap.objs.size f cd :: outer
  ex := []
  calm := true
  fn := fun _ => true
  pn := []
  xe := fun e s' => wpAny (model P w) (A.deeper (envOfC qual scope s.heap.objs.size f cd)) (leaving (envOfC qual scope s.heap.objs.size f cd) e) (fun _ s'' => CX outer H s E e s'') (fun e' s'' => CX outer H s E e' s'') s'
theorem cell_has {sc : Scope} {n : Nat} {x : Str} (h : sc.names.lookup x = some .cell) : ∃ c, (cellsFrom n sc.names []).lookup x = some c := by
  have q := PySem.W.cellsFrom_some sc.names n [] (.inl h)
  exact Option.isSome_iff_exists.mp q
theorem inv_start {CX : CXT} {P : Program} {w : World} {K : PySem.W.Frag} {mg : Str → Option Value} {base : Heap} {N ps : List Str} {qual : Str} {scope : Scope} {f : Addr} {cd : Value} {A : Around} {outer : List Env} {s s1 : Shared} {H : Hp} {E : XK} {us : List Value} {vs : List V}
    (S : FnScope N ps scope) (hd : A.handled = none) (e0 : Env0 P w K mg base A outer s H) (hl : vs.length = ps.length) (r : Vals vs us)
    (x : InCallC s s.heap.objs.size (bindL (envOfC qual scope s.heap.objs.size f cd).kindOf (ps.zip us) fun _ => none) (cellsFrom (s.heap.objs.size + 1) scope.names []) (bindC (envOfC qual scope s.heap.objs.size f cd).kindOf (ps.zip us) fun _ => none) s1) :
    Inv (cxOf CX P w K mg base N qual scope f cd A outer s H E) [] (start N vs) H s1 := by
  have hpl : ps.length ≤ N.length := by have := congrArg List.length S.pre; rw [List.length_take] at this; omega
  obtain ⟨h1, tk, rfl, hk⟩ := x.done
  have noA : ∀ b : Addr, b ∉ (cxOf CX P w K mg base N qual scope f cd A outer s H E).ex := fun b z => absurd (show b ∈ ([] : List Addr) from z) (by simp)
  refine ⟨⟨e0.mod, S.kind, rfl, rfl, Nat.le_refl _, fun y z c h1 h2 => ?_, fun y hy => ?_, fun y c _ h => ?_, fun _ => hd, Around.frames_deeper e0.frames, .inr ⟨rfl, rfl⟩, fun b z => absurd z (noA b), e0.bs, e0.bsz, fun b _ _ => noA b, fun b z => absurd z (noA b), e0.funs, e0.frf⟩,
    rfl, e0.bare, Un.kept hk, ⟨_, x.toInCall.ns, fun i y v h1 h2 h3 => ?_⟩, fun y c h => ⟨_, x.cell y c h⟩, e0.hok.fresh (Nat.le_refl _), fun y c h => ?_, fun p hp => absurd (show p ∈ ([] : List (Addr × Obj)) from hp) (by simp), e0.hok.kept hk, ?_⟩
  · exact name_of_addr x.apart (PySem.mem_of_lookup h1) (PySem.mem_of_lookup h2)
  · have hy : scope.names.lookup y = some .cell ∨ scope.names.lookup y = some .free := hy
    rcases hy with hy | hy
    · exact cell_has hy
    · exact absurd rfl (S.nofree _ (PySem.mem_of_lookup hy))
  · exact Nat.le_of_lt (x.above y c (PySem.mem_of_lookup h))
  · have hi : i < vs.length := by
      unfold start at h2
      by_cases hi : i < vs.length
      · exact hi
      · rw [List.getElem?_append_right (by simpa using hi)] at h2
        rw [List.getElem?_replicate] at h2
        split at h2 <;> cases h2
    have ha : vs[i]? = some v := by
      unfold start at h2
      rw [List.getElem?_append_left (by simpa using hi), List.getElem?_map] at h2
      cases e : vs[i]? with
      | none => rw [e] at h2; cases h2
      | some a => rw [e] at h2; cases h2; rfl
    obtain ⟨u, hu, rv⟩ := r.get ha
    have hp : ps[i]? = some y := by
      rw [← S.pre, List.getElem?_take_of_lt (by omega)]; exact h1
    have ndP : ps.Nodup := by rw [← S.pre]; exact S.nd.sublist (List.take_sublist _ _)
    refine ⟨u, rv, ?_⟩
    rcases S.par y (List.mem_of_getElem? hp) with k | k
    · exact .inl ⟨k, bindL_get ndP hp hu k⟩
    · obtain ⟨c, e⟩ := cell_has (n := s.heap.objs.size + 1) k
      refine .inr ⟨.inl k, c, e, ?_⟩
      have q := x.cell y c e
      rw [bindC_get ndP hp hu (by show scope.names.lookup y ≠ _; rw [k]; decide)] at q
      exact q
  · exact e0.hok.fresh (Nat.le_of_lt (x.above y c (PySem.mem_of_lookup h)))
  · unfold start
    show _ = N.length
    rw [List.length_append, List.length_map, List.length_replicate]
    omega
theorem fn_of {CX : CXT} {P : Program} {w : World} {K : PySem.W.Frag} {mg : Str → Option Value} {base : Heap} {k : Nat} {f : Addr} {name qual : Str} {params : Arguments} {body : List Stmt} {scope : Scope} {dV kV doc pm cdv ct oc : Value} {an od : Option Addr}
    {osl : Array (Option Value)} {N ps : List Str} {sp : Sp} (lk : K.lookup f = some ⟨oc, od, .func (PySem.W.fnOf name qual params body scope dV kV doc pm an cdv ct), osl⟩) (hcd : PySem.W.codeIn K cdv qual = true) (S : FnScope N ps scope)
    (len : ∀ vs H Q E, sp vs H Q E → vs.length = ps.length)
    (hbody : ∀ (A : Around) (outer : List Env) (s : Shared) (H : Hp) (vs : List V) (Q : VK) (E : XK), Room k (A.deeper (envOfC qual scope s.heap.objs.size f cdv)) → sp vs H Q E →
      ∃ t, PSs (cxOf CX P w K mg base N qual scope f cdv A outer s H E) body t ∧ t { nx := fun _ H' => Q .non H', rt := Q } (start N vs) H) :
    FnOk P w K mg base CX (k + 1) f (PySem.W.fnOf name qual params body scope dV kV doc pm an cdv ct) ps sp := by
  refine ⟨len, fun A outer s H args us vs Q E hr e0 hb r hsp => ?_⟩
  have hl := len _ _ _ _ hsp
  have KX : K.In s.heap := e0.mod.kin.keeps fun b o e => (e0.bs b o e).1
  have lim : s.heap.NoLimit := e0.mod.nolimit.keeps fun b o e => (e0.bs b o e).1
  have hkind : ∀ y ∈ ps.zip us, scope.names.lookup y.1 = some .local ∨ (scope.names.lookup y.1 = some .cell ∧ ((cellsFrom (s.heap.objs.size + 1) scope.names []).lookup y.1).isSome = true) := fun ⟨n, v⟩ hy => by
    rcases S.par n (List.of_mem_zip hy).1 with q | q
    · exact .inl q
    · exact .inr ⟨q, PySem.W.cellsFrom_some _ _ _ (.inl q)⟩
  refine codeAny_call_function hr.depth (KX _ _ lk) rfl S.co S.gen rfl (PySem.W.codeRec_of KX hcd) (hb _ _ _ _ ?_)
  refine wpAny_newFunctionEnv_cells S.kind hkind fun env he s1 x => ?_
  subst he
  refine ⟨lim.keeps x.toInCall.keep, codeAny_func ?_⟩
  obtain ⟨t, ht, hq⟩ := hbody A outer s H vs Q E (hr.deeper _) hsp
  have I : Inv (cxOf CX P w K mg base N qual scope f cdv A outer s H E) [] (start N vs) H s1 := inv_start S hr.hd e0 hl r x
  refine wpAny_mono (ht [] s1 (start N vs) H _ I hq) (fun fl s' hs => ?_) fun e s' hs => hs
  have fin : ∀ {σ' : St} {H' : Hp} {v : V} {u : Value}, Inv (cxOf CX P w K mg base N qual scope f cdv A outer s H E) [] σ' H' s' → RelV v u → Q v H' → CE outer P w H s Q u s' :=
    fun {σ' H' v u} J rv q => ⟨v, H', J.os, J.bare, J.base, J.hok, rv, q⟩
  cases fl with
  | ret u =>
    obtain ⟨v, σ', H', J, rv, q⟩ := hs
    exact fin J rv q
  | next =>
    obtain ⟨σ', H', J, q⟩ := hs
    exact fin (v := V.non) (u := Value.none) J rfl q
  | brk =>
    obtain ⟨_, _, _, q⟩ := hs
    exact False.elim q
  | cont =>
    obtain ⟨_, _, _, q⟩ := hs
    exact False.elim q
end L2
namespace L2
open PySem PySem.Spec PyProof.Rows
section
variable {X : Cx} {x : Str} {p pos : Pos} {e : Expr} {es : List Expr} {t : TA} {id T : String} {r : List V → Hp → VK → Prop}
def tCB (r : List V → Hp → VK → Prop) (t : TA) : TE := fun σ H Q => t σ H fun vs H1 => r vs H1 Q
theorem pe_callB (hc : CallR X (.builtin id) r) (hg : Gl X x) (hm : X.mg x = none) (hv : bootBuiltins x = some (.builtin id)) (ha : PA X (e :: es) t) (hn : x ≠ "__name__" := by decide) (hdb : (x == ("__debug__" : Str)) = false := by decide)
    (he : starEach (e :: es) X.env = (false, eval e X.env) :: starEach es X.env := by rfl) (hpl : (backTo pos (starEach es X.env)).any (·.1) = false := by rfl) : PE X (.Call (.Name x p) (e :: es) [] pos) (tCB r t) := by
  intro pins s σ H Q I h
  refine wpAny_Call_Name_kw (ld_blt I hg hm hv ?_ hn hdb)
  exact PyProof.Rows.callWith_builtin1 (thn (ha pos pins s σ H _ I h) fun us s1 ⟨vs, H1, I1, r1, q1⟩ => hc pins s1 σ H1 vs us Q I1 r1 q1) he hpl
theorem pe_callTy (hc : CallR X (.type T) r) (hg : Gl X x) (hm : X.mg x = none) (hv : bootBuiltins x = some (.type T)) (ha : PA X (e :: es) t) (hn : x ≠ "__name__" := by decide) (hdb : (x == ("__debug__" : Str)) = false := by decide)
    (he : starEach (e :: es) X.env = (false, eval e X.env) :: starEach es X.env := by rfl) (hpl : (backTo pos (starEach es X.env)).any (·.1) = false := by rfl) : PE X (.Call (.Name x p) (e :: es) [] pos) (tCB r t) := by
  intro pins s σ H Q I h
  refine wpAny_Call_Name_kw (ld_blt I hg hm hv ?_ hn hdb)
  exact PyProof.Rows.callWith_type1 (thn (ha pos pins s σ H _ I h) fun us s1 ⟨vs, H1, I1, r1, q1⟩ => hc pins s1 σ H1 vs us Q I1 r1 q1) he hpl
end
end L2
namespace HT
open PySem PyProof.Rows
def lexLt : List Int → List Int → Bool
  | [], [] => false
  | [], _ :: _ => true
  | _ :: _, [] => false
  | x :: xs, y :: ys => if x = y then lexLt xs ys else decide (x < y)
theorem lexLt_cons (x y : Int) (xs ys : List Int) : lexLt (x :: xs) (y :: ys) = if x = y then lexLt xs ys else decide (x < y) := rfl
theorem lexLt_nil_nil : lexLt [] [] = false := rfl
theorem lexLt_nil_cons (y : Int) (ys : List Int) : lexLt [] (y :: ys) = true := rfl
theorem lexLt_cons_nil (x : Int) (xs : List Int) : lexLt (x :: xs) [] = false := rfl
theorem eqAt_int (A : Around) (s : Shared) (a : Int) (t : Tok) (c : Int) (u : Tok) : ∃ e, SeqAt.EqAt A s (.int a t) (.int c u) e ∧ (e = true ↔ a = c) :=
  ⟨(a == c), SeqAt.EqAt.int_int a t c u, by simp⟩
theorem rcLt_int (A : Around) (s : Shared) (a : Int) (t : Tok) (c : Int) (u : Tok) (prog : Program) (w : World) (E : Value → Shared → Prop) (Q : Value → Shared → Prop) (h : Q (.bool (decide (a < c))) s) :
    wpAny (model prog w) A (richCompare .Lt (.int a t) (.int c u)) Q E s :=
  (PyProof.Rows.lt_int h : wpAny (model prog w) A (compareOp .Lt (.int a t) (.int c u)) Q E s)
section
open PySem.SeqAt
open PySem.AutoSeq1 (wpAny_loadPart')
open PySem.MeetsSeq PySem.MeetsSeq2 PySem.MeetsSeq3
theorem tuple_lt_ints (l b : Addr) (items items2 : Array Value) (n n2 : Nat) (dd dd2 : Option Addr) (sl sl2 : Array (Option Value)) (ns ms : List Int) (hi : IntsAre items.toList ns) (hj : IntsAre items2.toList ms) :
    Meets (Builtin.«tuple.__lt__» ⟨[.ref l, .ref b], []⟩)
      (fun _ R s => s.heap.get? l = some { cls := .type "tuple", dict := dd, data := .seq items n, slots := sl } ∧ s.heap.get? b = some { cls := .type "tuple", dict := dd2, data := .seq items2 n2, slots := sl2 } ∧
        R (.ok (.ret (.bool (lexLt ns ms)))) s) :=
  .of_wp fun prog w A R s h => by
    obtain ⟨hp, g, d, tk, os⟩ := s; obtain ⟨hl, hb, h⟩ := h
    have f2 := AutoSeq1.sub_tuple_tuple
    have z1 : items.size = ns.length := by rw [← hi.length]; simp
    have z2 : items2.size = ms.length := by rw [← hj.length]; simp
    wp_walk using wpAny_loadPart' hl, wpAny_loadPart' hb, wpAny_forIn_list _ (fun rest b s' => b.1 = none ∧ s' = ⟨hp, g, d, tk, os⟩ ∧ ∃ (vs ws : List Value) (ns' ms' : List Int), rest = vs.zip ws ∧
      IntsAre vs ns' ∧ IntsAre ws ms' ∧ ns'.length + items2.size = ms'.length + items.size ∧ R (.ok (.ret (.bool (lexLt ns' ms')))) ⟨hp, g, d, tk, os⟩) _
    case turn =>
      rintro ⟨y, x⟩ rest b s' ⟨hb', rfl, vs, ws, ns', ms', hz, hvi, hwi, hlen, hR⟩
      cases hvi with
      | nil => rw [List.zip_nil_left] at hz; cases hz
      | cons a t hvi' =>
        cases hwi with
        | nil => rw [List.zip_nil_right] at hz; cases hz
        | cons c u hwi' =>
          rw [List.zip_cons_cons] at hz
          injection hz with hyx hrest
          injection hyx with hy hx
          subst hy hx
          rw [lexLt_cons] at hR
          simp only [List.length_cons] at hlen
          obtain ⟨e, he, hiff⟩ := eqAt_int A.in1 ⟨hp, g, d, tk, os⟩ a t c u
          refine wpAny_bind (he prog w _ _ ?_)
          cases e with
          | true =>
            rw [if_pos (hiff.mp rfl)] at hR
            wp_walk
            exact ⟨rfl, rfl, _, _, _, _, hrest, hvi', hwi', by omega, hR⟩
          | false =>
            rw [if_neg (fun q => absurd (hiff.mpr q) Bool.false_ne_true)] at hR
            have hri := rcLt_int A.in1 ⟨hp, g, d, tk, os⟩ a t c u prog w
            wp_walk using hri
            exact ⟨_, rfl, by simpa using hR⟩
    case fin =>
      rintro ⟨b1, b2⟩ s' ⟨hb', rfl, vs, ws, ns', ms', hz, hvi, hwi, hlen, hR⟩
      simp only at hb'
      subst hb'
      have hv : lexLt ns' ms' = decide (items.size < items2.size) := by
        cases hvi with
        | nil =>
          cases hwi with
          | nil =>
            simp only [List.length_nil] at hlen
            rw [lexLt_nil_nil]
            exact (decide_eq_false (by omega)).symm
          | cons c u hw =>
            simp only [List.length_nil, List.length_cons] at hlen
            rw [lexLt_nil_cons]
            exact (decide_eq_true (by omega)).symm
        | cons a t hv =>
          cases hwi with
          | nil =>
            simp only [List.length_nil, List.length_cons] at hlen
            rw [lexLt_cons_nil]
            exact (decide_eq_false (by omega)).symm
          | cons c u hw =>
            rw [List.zip_cons_cons] at hz
            cases hz
      rw [hv] at hR
      wp_walk
      exact ⟨_, rfl, by simpa [Builtin.Tuple.tupleCompareSizes] using hR⟩
    case h =>
      exact ⟨rfl, rfl, items.toList, items2.toList, ns, ms, rfl, hi, hj, by omega, h⟩
end
section
variable {prog : Program} {w : World} {A : Around} {E : Value → Shared → Prop} {s : Shared}
theorem lt_tupInts {l b : Addr} {items items2 : Array Value} {ns ms : List Int} {Q : Value → Shared → Prop} (hl : IsTup s.heap l items) (hb : IsTup s.heap b items2) (hi : IntsAre items.toList ns) (hj : IntsAre items2.toList ms)
    (hu : A.units < cLine) (h : Q (.bool (lexLt ns ms)) s) : wpAny (model prog w) A (compareOp .Lt (.ref l) (.ref b)) Q E s := by
  obtain ⟨⟨cls, dd, data, sl⟩, ho, hc, n, hd⟩ := id hl
  obtain ⟨⟨cls2, dd2, data2, sl2⟩, ho2, hc2, n2, hd2⟩ := id hb
  simp only at hc hd hc2 hd2
  subst hc hd hc2 hd2
  exact richCompare_meets_room (op := .Lt) ⟨_, ho, rfl⟩ ⟨_, ho2, rfl⟩ PySem.F.slot_tuple_lt PySem.F.entry_tuple_lt (PySem.F.args_tuple_lt_2 _ _) (tuple_lt_ints l b items items2 n n2 dd dd2 sl sl2 ns ms hi hj)
    ⟨ho, ho2, show Value.bool (lexLt ns ms) ≠ Value.notImplemented ∧ Q (.bool (lexLt ns ms)) s from ⟨(fun x => nomatch x), h⟩⟩ hu
theorem cat_tup {t b : Addr} {vs ws : List Value} {Q : Value → Shared → Prop} (ht : IsTup s.heap t vs.toArray) (hb : IsTup s.heap b ws.toArray) (hv : vs ≠ [])
    (h1 : ws = [] → Q (.ref t) s) (h2 : ws ≠ [] → Q (.ref s.heap.objs.size) { s with heap := s.heap.push { cls := .type "tuple", data := .seq (vs ++ ws).toArray } })
    (hsz : vs.length + ws.length ≤ sizeLine) : wpAny (model prog w) A (binaryOp .Add (.ref t) (.ref b)) Q E s := by
  obtain ⟨⟨cls, dd, data, sl⟩, ho, hc, n, hd⟩ := id ht
  obtain ⟨⟨cls2, dd2, data2, sl2⟩, ho2, hc2, n2, hd2⟩ := id hb
  simp only at hc hd hc2 hd2
  subst hc hd hc2 hd2
  have e : vs.toArray ++ ws.toArray = (vs ++ ws).toArray := by simp
  by_cases hw : ws = []
  · exact concat_meets ⟨_, ho, rfl⟩ ⟨_, ho2, rfl⟩ noFill_tuple_add seq_tuple_add PySem.F.slot_tuple_add PySem.F.entry_tuple_add (PySem.F.args_tuple_add_2 _ _)
      (tuple_addW1 t b vs.toArray ws.toArray n n2 dd dd2 sl sl2 (by simpa using hv) (by simp [hw])) ⟨ho, ho2, h1 hw⟩
  · refine concat_meets ⟨_, ho, rfl⟩ ⟨_, ho2, rfl⟩ noFill_tuple_add seq_tuple_add PySem.F.slot_tuple_add PySem.F.entry_tuple_add (PySem.F.args_tuple_add_2 _ _)
      (tuple_addW2 t b vs.toArray ws.toArray n n2 dd dd2 sl sl2 (by simpa using hv) (by simpa using hw) (by rw [List.size_toArray, List.size_toArray]; exact hsz)) ⟨ho, ho2, ?_⟩
    rw [e]
    exact h2 hw
def sIx (n d : Nat) : Option Int → Nat
  | none => d
  | some v => if v < 0 then (v + (n : Int)).toNat else min v.toNat n
theorem sIx_none (n d : Nat) : sIx n d none = d := rfl
theorem sIx_nat (n d k : Nat) : sIx n d (some (k : Int)) = min k n := by
  show (if (k : Int) < 0 then ((k : Int) + (n : Int)).toNat else min (k : Int).toNat n) = min k n
  rw [if_neg (by omega), Int.toNat_natCast]
theorem sIx_le (n d : Nat) (hd : d ≤ n) (o : Option Int) : sIx n d o ≤ n := by
  cases o with
  | none => exact hd
  | some v =>
    show (if v < 0 then (v + (n : Int)).toNat else min v.toNat n) ≤ n
    by_cases hv : v < 0
    · rw [if_pos hv]; omega
    · rw [if_neg hv]; exact Nat.min_le_right _ _
theorem clip_eq (v : Int) (n d : Nat) : (if v < 0 then max (v + (n : Int)) 0 else min v (n : Int)) = ((sIx n d (some v) : Nat) : Int) := by
  show (if v < 0 then max (v + (n : Int)) 0 else min v (n : Int)) = (((if v < 0 then (v + (n : Int)).toNat else min v.toNat n) : Nat) : Int)
  by_cases hv : v < 0
  · simp only [if_pos hv]; omega
  · simp only [if_neg hv]; omega
theorem adjust_gen (lo hi : Option Int) (n : Nat) : Builtin.Slice.sliceAdjust lo hi 1 (n : Int) = (((sIx n 0 lo : Nat) : Int), ((sIx n n hi : Nat) : Int)) := by
  have h1 : ¬ ((1 : Int) < 0) := by omega
  unfold Builtin.Slice.sliceAdjust
  simp only [h1, if_false]
  refine Prod.ext ?_ ?_
  · cases lo with
    | none => rfl
    | some v => exact clip_eq v n 0
  · cases hi with
    | none => rfl
    | some v => exact clip_eq v n n
theorem places_gen (i j : Nat) : Builtin.Slice.slicePlaces (i : Int) (j : Int) 1 = j - i := by
  unfold Builtin.Slice.slicePlaces
  have h1 : (1 : Int) > 0 := by omega
  simp only [h1, if_true, Int.ediv_one]
  split <;> omega
theorem slicePart_ {v : Value} {o : Option Int} {Q : Option Int → Shared → Prop} (p : IsPart v o) (h : Q o s) : wpAny (model prog w) A (Builtin.Slice.slicePartIndex v) Q E s := by
  cases p with
  | none => exact slicePart_none h
  | int i t => exact slicePart_int h
theorem sliceApplied_gen {sl : Addr} {vl vu : Value} {lo hi : Option Int} {n : Nat} {Q : Int × Int × Nat → Shared → Prop} (hs : s.heap.IsSliceOf sl vl vu .none) (pl : IsPart vl lo) (pu : IsPart vu hi)
    (h : Q (((sIx n 0 lo : Nat) : Int), 1, sIx n n hi - sIx n 0 lo) s) : wpAny (model prog w) A (Builtin.Slice.sliceApplied (.ref sl) (pure (n : Int))) Q E s := by
  obtain ⟨os, hos, hcs, hds⟩ := id hs
  unfold Builtin.Slice.sliceApplied Builtin.Slice.sliceFields
  refine wpAny_bind (wpAny_bind (wpAny_field hos hds (x := vl) rfl (wpAny_bind (wpAny_field hos hds (x := vu) rfl (wpAny_bind (wpAny_field hos hds (x := .none) rfl (wpAny_pure ?_)))))))
  refine wpAny_bind (slicePart_none ?_)
  show wpAny _ _ (if ((1 : Int) == 0) = true then _ else _) _ _ s
  rw [if_neg (by decide)]
  refine wpAny_bind (slicePart_ pl (wpAny_bind (slicePart_ pu (wpAny_bind (wpAny_pure ?_)))))
  show wpAny _ _ (match Builtin.Slice.sliceAdjust lo hi 1 (n : Int) with | (lo, hi) => pure (lo, (1 : Int), Builtin.Slice.slicePlaces lo hi 1)) _ _ s
  rw [adjust_gen lo hi n]
  show wpAny _ _ (pure (((sIx n 0 lo : Nat) : Int), (1 : Int), Builtin.Slice.slicePlaces ((sIx n 0 lo : Nat) : Int) ((sIx n n hi : Nat) : Int) 1)) _ _ s
  rw [places_gen]
  exact wpAny_pure h
theorem pick_gen (xs : Array Value) (i k : Nat) : ((List.range k).filterMap fun (m : Nat) => xs[((i : Int) + (m : Int) * 1).toNat]?).toArray = ((xs.toList.drop i).take k).toArray := by
  have e : (fun (m : Nat) => xs[((i : Int) + (m : Int) * 1).toNat]?) = fun m => xs[i + m]? := by
    funext m
    have : ((i : Int) + (m : Int) * 1).toNat = i + m := by omega
    rw [this]
  rw [e]
  have := pick_run xs i k
  rw [List.filterMap_map] at this
  have e2 : ((fun x => xs[x]?) ∘ fun x => i + x) = fun m => xs[i + m]? := rfl
  rw [e2] at this
  rw [this]
theorem getItem_tuple_cut {t sl : Addr} {items : Array Value} {vl vu : Value} {lo hi : Option Int} {Q : Value → Shared → Prop} (ht : IsTup s.heap t items) (hs : s.heap.IsSliceOf sl vl vu .none) (pl : IsPart vl lo) (pu : IsPart vu hi)
    (hw : ¬ (sIx items.size 0 lo = 0 ∧ sIx items.size items.size hi = items.size))
    (h : Q (.ref s.heap.objs.size) { s with heap := s.heap.push { cls := .type "tuple", data := .seq ((items.toList.drop (sIx items.size 0 lo)).take (sIx items.size items.size hi - sIx items.size 0 lo)).toArray } })
    (hsz : items.size ≤ sizeLine) : wpAny (model prog w) A (getItem (.ref t) (.ref sl)) Q E s := by
  have htake : sizeOk (.seq ((items.toList.drop (sIx items.size 0 lo)).take (sIx items.size items.size hi - sIx items.size 0 lo)).toArray) := by
    show ((items.toList.drop (sIx items.size 0 lo)).take (sIx items.size items.size hi - sIx items.size 0 lo)).toArray.size ≤ sizeLine
    rw [List.size_toArray, List.length_take, List.length_drop, Array.length_toList]
    omega
  have hj : sIx items.size items.size hi ≤ items.size := sIx_le _ _ (Nat.le_refl _) hi
  obtain ⟨os, hos, hcs, hds⟩ := id hs
  have hTs : s.TypeIs (.ref sl) "slice" := ⟨os, hos, hcs⟩
  unfold getItem
  try with_reducible refine wpAny_holding ?_
  first | refine wpAny_bind (wpAny_pure ?_) | skip
  refine wpAny_bind (wpAny_sequenceKey ht.typeIs (by decide) ?_)
  refine wpAny_bind (wpAny_callSpecial?_slot (name := Str.ofString "__getitem__") ht.typeIs PyProof.Rows.slot_tuple_getitem
    (wpAny_call_entry PyProof.Rows.slot_tuple_getitem ht.typeIs entry_tuple_getitem ?_ (args_tuple_getitem _ _)))
  show wpAny _ _ (Builtin.Tuple.tupleItemsOf (.ref t) >>= _) _ _ s
  refine wpAny_bind (tupleItemsOf_ ht ?_)
  refine wpAny_bind (wpAny_typeOf hTs ?_)
  rw [if_pos (by decide)]
  refine wpAny_bind (sliceApplied_gen hs pl pu ?_)
  have hno : ¬ ((((sIx items.size 0 lo : Nat) : Int) == 0 && (1 : Int) == 1 && (sIx items.size items.size hi - sIx items.size 0 lo) == items.size) = true) := by
    intro q
    rw [Bool.and_eq_true, Bool.and_eq_true] at q
    have q1 : ((sIx items.size 0 lo : Nat) : Int) = 0 := eq_of_beq q.1.1
    have q2 : sIx items.size items.size hi - sIx items.size 0 lo = items.size := eq_of_beq q.2
    exact hw ⟨by omega, by omega⟩
  show wpAny _ _ (if (((sIx items.size 0 lo : Nat) : Int) == 0 && (1 : Int) == 1 && (sIx items.size items.size hi - sIx items.size 0 lo) == items.size) = true then _ else _) _ _ s
  rw [if_neg hno, pick_gen]
  first
    | exact wpAny_bind (m := Builtin.Tuple.tupleExact _) (wpAny_newObj_type (wpAny_pure ⟨_, rfl, wpAny_pure h⟩) htake)
    | exact wpAny_bind (m := Builtin.Tuple.tupleExact _) (wpAny_newObj_type (wpAny_bind (wpAny_pure (wpAny_pure ⟨_, rfl, wpAny_pure h⟩))) htake)
    | exact wpAny_bind (wpAny_bind (m := Builtin.Tuple.tupleExact _) (wpAny_newObj_type (wpAny_pure (wpAny_pure ⟨_, rfl, wpAny_pure h⟩)) htake))
    | exact wpAny_bind (wpAny_bind (m := Builtin.Tuple.tupleExact _) (wpAny_newObj_type (wpAny_pure ⟨_, rfl, wpAny_pure h⟩) htake))
end
end HT
namespace L2
open PySem PySem.Spec PyProof.Rows
abbrev TO := St → Hp → (Option Int → Hp → Prop) → Prop
def PO (X : Cx) (e : Option Expr) (t : TO) : Prop :=
  ∀ (pins : List (Addr × Obj)) (s : Shared) (σ : St) (H : Hp) (Q : Option Int → Hp → Prop), Inv X pins σ H s → t σ H Q →
    wpAny (model X.prog X.w) X.A (evalPart e X.env) (fun u s' => ∃ o H', Inv X pins σ H' s' ∧ IsPart u o ∧ Q o H') X.xe s
def tNoPart : TO := fun _ H Q => Q none H
def tPart (t : TE) : TO := fun σ H Q => t σ H fun x H1 => ∃ i, x = .int i ∧ Q (some i) H1
section
variable {X : Cx} {e : Expr} {te : TE} {lo hi : Option Expr} {tl th : TO} {pos p2 : Pos}
theorem po_none : PO X none tNoPart := by
  intro pins s σ H Q I h
  rw [evalPart_none]
  exact wpAny_pure ⟨none, H, I, .none, h⟩
theorem po_some (h : PE X e te) : PO X (some e) (tPart te) := by
  intro pins s σ H Q I hw
  rw [evalPart_some]
  refine thn (h pins s σ H _ I hw) fun u s1 ⟨x, H1, I1, r1, q1⟩ => ?_
  obtain ⟨i, rfl, q⟩ := q1
  obtain ⟨t, rfl⟩ := r1
  exact ⟨some i, H1, I1, .int i t, q⟩
def SlR (X : Cx) (r : V → Option Int → Option Int → Hp → VK → Prop) : Prop :=
  ∀ (pins : List (Addr × Obj)) (s : Shared) (σ : St) (H : Hp) (x : V) (v vl vu : Value) (lo hi : Option Int) (sl : Addr) (Q : VK), Inv X pins σ H s → RelV x v → s.heap.IsSliceOf sl vl vu .none → IsPart vl lo → IsPart vu hi → r x lo hi H Q →
    ∃ T id, typeLookup (.type T) "__getitem__" = pure (some (.builtin id)) ∧ s.TypeIs v T ∧ wpAny (model X.prog X.w) X.A (getItem v (.ref sl)) (EP X pins σ Q) X.xe s
theorem SlR.or {r r' : V → Option Int → Option Int → Hp → VK → Prop} (h : SlR X r) (h' : SlR X r') : SlR X (fun x lo hi H Q => r x lo hi H Q ∨ r' x lo hi H Q) := by
  intro pins s σ H x v vl vu lo hi sl Q I rx hs pl pu q
  rcases q with q | q
  · exact h pins s σ H x v vl vu lo hi sl Q I rx hs pl pu q
  · exact h' pins s σ H x v vl vu lo hi sl Q I rx hs pl pu q
def tSl (r : V → Option Int → Option Int → Hp → VK → Prop) (te : TE) (tl th : TO) : TE := fun σ H Q => te σ H fun x H1 => tl σ H1 fun l H2 => th σ H2 fun u H3 => r x l u H3 Q
theorem pe_slice {r : V → Option Int → Option Int → Hp → VK → Prop} (hr : SlR X r) (he : PE X e te) (hl : PO X lo tl) (hu : PO X hi th) : PE X (.Subscript e (.Slice lo hi none p2) pos) (tSl r te tl th) := by
  intro pins s σ H Q I h
  refine Subscript_ (thn (he pins s σ H _ I h) fun v s1 ⟨x, H1, I1, r1, q1⟩ => ?_)
  refine wpAny_Slice (thn (hl pins s1 σ H1 _ I1 q1) fun vl s2 ⟨l, H2, I2, pl, q2⟩ => thn (hu pins s2 σ H2 _ I2 q2) fun vu s3 ⟨u, H3, I3, pu, q3⟩ => ?_)
  rw [evalPart_none]
  refine wpAny_pure ?_
  have I4 : Inv X pins σ H3 { s3 with heap := s3.heap.push { cls := .type "slice", data := .fields #[vl, vu, .none] } } := I3.kept (t' := s3.toks) fun b ob q => Heap.get?_push_of_some _ q
  obtain ⟨T, id, hT, ht, hg⟩ := hr pins { s3 with heap := s3.heap.push { cls := .type "slice", data := .fields #[vl, vu, .none] } } σ H3 x v vl vu l u s3.heap.objs.size Q I4 r1 (Heap.IsSliceOf.new ..) pl pu q3
  show wpAny (model X.prog X.w) X.A (subscriptTail e (.Slice lo hi none p2) v (.ref s3.heap.objs.size)) (EP X pins σ Q) X.xe { s3 with heap := s3.heap.push { cls := .type "slice", data := .fields #[vl, vu, .none] } }
  exact tail_any (ops := [.ref s3.heap.objs.size, v]) ht hT hg (by with_unfolding_all rfl)
def cutV (xs : List V) (lo hi : Option Int) : List V := (xs.drop (HT.sIx xs.length 0 lo)).take (HT.sIx xs.length xs.length hi - HT.sIx xs.length 0 lo)
theorem cutV_length (xs : List V) (lo hi : Option Int) : (cutV xs lo hi).length ≤ xs.length := by
  unfold cutV
  rw [List.length_take, List.length_drop]
  omega
def rSlT (K : PySem.W.Frag) : V → Option Int → Option Int → Hp → VK → Prop := fun x lo hi H Q => ∃ a xs, x = .ref a ∧ SqT K H a xs ∧
  ¬ (HT.sIx xs.length 0 lo = 0 ∧ HT.sIx xs.length xs.length hi = xs.length) ∧ ∀ p, H p = none → Q (.ref p) (upd H p (.tup (cutV xs lo hi)))
theorem sl_tup : SlR X (rSlT X.K) := by
  intro pins s σ H x v vl vu lo hi sl Q I rx hs pl pu h
  obtain ⟨a, xs, rfl, hx, hw, q⟩ := h
  cases rx
  obtain ⟨its, r, ht, hz⟩ := I.tuple hx
  have hlen : its.toArray.size = xs.length := by rw [List.size_toArray]; exact r.length.symm
  refine ⟨"tuple", _, PyProof.Rows.slot_tuple_getitem.lookup, ht.typeIs, ?_⟩
  refine HT.getItem_tuple_cut ht hs pl pu (by rw [hlen]; exact hw) ?_ (by rw [hlen]; exact hz)
  rw [hlen]
  refine ⟨.ref s.heap.objs.size, _, I.laid (t' := s.toks) (o := .tup (cutV xs lo hi)) (fun b ob q => Heap.get?_push_of_some _ q) (Nat.le_refl _) ?_, rfl, q _ (I.hok.fresh (Nat.le_refl _))⟩
  exact ⟨Nat.le_trans (cutV_length xs lo hi) hz, _, (r.drop (HT.sIx xs.length 0 lo)).take (HT.sIx xs.length xs.length hi - HT.sIx xs.length 0 lo), IsTup.new _ _⟩
def rCatT (K : PySem.W.Frag) : R2 := fun x y H Q => ∃ a b xs ys, x = .ref a ∧ y = .ref b ∧ SqT K H a xs ∧ SqT K H b ys ∧ xs ≠ [] ∧ xs.length + ys.length ≤ sizeLine ∧
  (ys = [] → Q (.ref a) H) ∧ (ys ≠ [] → ∀ p, H p = none → Q (.ref p) (upd H p (.tup (xs ++ ys))))
theorem Vals.nil_iff {xs : List V} {us : List Value} (r : Vals xs us) : us = [] ↔ xs = [] := by
  cases r with
  | nil => simp
  | cons _ _ => simp
theorem op_catT : OpR X (binaryOp .Add) (rCatT X.K) := by
  intro pins s σ H x y v u Q I rx ry h
  obtain ⟨a, b, xs, ys, rfl, rfl, ha, hb, hx, hz, q1, q2⟩ := h
  cases rx
  cases ry
  obtain ⟨its, r1, p1, _⟩ := I.tuple ha
  obtain ⟨its2, r2, p2, _⟩ := I.tuple hb
  refine HT.cat_tup p1 p2 (fun z => hx (r1.nil_iff.mp z)) (fun z => ⟨.ref a, H, I, rfl, q1 (r2.nil_iff.mp z)⟩) (fun z => ?_) (by rw [← r1.length, ← r2.length]; exact hz)
  refine ⟨.ref s.heap.objs.size, _, I.laid (t' := s.toks) (o := .tup (xs ++ ys)) (fun b ob q => Heap.get?_push_of_some _ q) (Nat.le_refl _) ?_, rfl, q2 (fun w => z (r2.nil_iff.mpr w)) _ (I.hok.fresh (Nat.le_refl _))⟩
  exact ⟨by rw [List.length_append]; exact hz, _, r1.append r2, IsTup.new _ _⟩
end
end L2
namespace L2
open PySem PySem.Spec PyProof.Rows
def ixN (n : Nat) (i : Int) : Option Nat := if 0 ≤ i then (if i < n then some i.toNat else none) else if -(n : Int) ≤ i then some (i + n).toNat else none
def atI {α : Type} (xs : List α) (i : Int) : Option α := (ixN xs.length i).bind fun j => xs[j]?
theorem ixN_seq {n : Nat} {i : Int} {j : Nat} (h : ixN n i = some j) : seqIndex? i n = some j ∧ j < n ∧ -(n : Int) ≤ i ∧ i < n := by
  unfold ixN at h
  by_cases h0 : 0 ≤ i
  · rw [if_pos h0] at h
    by_cases h1 : i < n
    · rw [if_pos h1] at h
      have e : i.toNat = j := Option.some.inj h
      exact ⟨by rw [seqIndex_of h0 h1, e], by omega, by omega, h1⟩
    · rw [if_neg h1] at h; cases h
  · rw [if_neg h0] at h
    by_cases h1 : -(n : Int) ≤ i
    · rw [if_pos h1] at h
      have e : (i + n).toNat = j := Option.some.inj h
      exact ⟨by rw [seqIndex_neg (by omega) h1, e], by omega, h1, by omega⟩
    · rw [if_neg h1] at h; cases h
theorem atI_get {α : Type} {xs : List α} {i : Int} {v : α} (h : atI xs i = some v) : ∃ j, seqIndex? i xs.length = some j ∧ xs[j]? = some v ∧ j < xs.length ∧ -(xs.length : Int) ≤ i ∧ i < xs.length := by
  unfold atI at h
  cases e : ixN xs.length i with
  | none => rw [e] at h; cases h
  | some j =>
    rw [e] at h
    obtain ⟨h1, h2, h3, h4⟩ := ixN_seq e
    exact ⟨j, h1, h, h2, h3, h4⟩
theorem atI_nat {α : Type} {xs : List α} {j : Nat} {v : α} (h : xs[j]? = some v) : atI xs (j : Int) = some v := by
  have hj : j < xs.length := (List.getElem?_eq_some_iff.mp h).1
  have e : ixN xs.length (j : Int) = some j := by
    unfold ixN
    rw [if_pos (by omega), if_pos (by omega)]; simp
  unfold atI; rw [e]; exact h
def PlainIx (b : Expr) : Prop := ∀ o i, subscripted b false o i = operate [o, i] (getItem o i)
def IxR (X : Cx) (r : R2) : Prop :=
  ∀ (value slice : Expr) (pins : List (Addr × Obj)) (s : Shared) (σ : St) (H : Hp) (x y : V) (v u : Value) (Q : VK), Inv X pins σ H s → RelV x v → RelV y u → r x y H Q →
    subscripted slice false v u = operate [v, u] (getItem v u) → wpAny (model X.prog X.w) X.A (subscriptTail value slice v u) (EP X pins σ Q) X.xe s
def MtR (X : Cx) (id : String) (r : V → List V → Hp → VK → Prop) : Prop :=
  ∀ (pins : List (Addr × Obj)) (s : Shared) (σ : St) (H : Hp) (x : V) (xs : List V) (v : Value) (us : List Value) (Q : VK), Inv X pins σ H s → RelV x v → Vals xs us → r x xs H Q →
    wpAny (model X.prog X.w) X.A (call (.builtin id) (v :: us)) (EP X pins σ Q) X.xe s
section
variable {X : Cx} {a b : Expr} {ta tb : TE} {pos : Pos}
theorem IxR.or {r r' : R2} (h : IxR X r) (h' : IxR X r') : IxR X (fun x y H Q => r x y H Q ∨ r' x y H Q) := by
  intro value slice pins s σ H x y v u Q I rx ry q hs
  rcases q with q | q
  · exact h value slice pins s σ H x y v u Q I rx ry q hs
  · exact h' value slice pins s σ H x y v u Q I rx ry q hs
theorem pe_ix {r : R2} (hr : IxR X r) (ha : PE X a ta) (hb : PE X b tb) (hs : PlainIx b) : PE X (.Subscript a b pos) (tOp r ta tb) := by
  intro pins s σ H Q I h
  exact Subscript_ (binT ha hb I h fun v u s2 x y H2 I2 rx ry q => hr a b pins s2 σ H2 x y v u Q I2 rx ry q (hs _ _))
def rIxL (K : PySem.W.Frag) : R2 := fun x y H Q => ∃ p xs i v, x = .ref p ∧ y = .int i ∧ SqL K H p xs ∧ atI xs i = some v ∧ Q v H
def rIxT (K : PySem.W.Frag) : R2 := fun x y H Q => ∃ p xs i v, x = .ref p ∧ y = .int i ∧ SqT K H p xs ∧ atI xs i = some v ∧ Q v H
def rIxS : R2 := fun x y H Q => ∃ z i c, x = .str z ∧ y = .int i ∧ z.length ≤ sizeLine ∧ atI z.cps.toList i = some c ∧ Q (.str ⟨#[c]⟩) H
theorem ix_list : IxR X (rIxL X.K) := by
  intro value slice pins s σ H x y v u Q I rx ry h hs
  obtain ⟨p, xs, i, z, rfl, rfl, hq, he, q⟩ := h
  cases rx
  obtain ⟨t, rfl⟩ := ry
  obtain ⟨its, r, pl, hz⟩ := I.list hq
  obtain ⟨j, h1, h2, h3, h4, h5⟩ := atI_get he
  obtain ⟨w, ew, rw'⟩ := r.get h2
  have hl := r.length
  have hn := line63
  have fin : EP X pins σ Q w s := ⟨z, H, I, rw', q⟩
  by_cases h0 : 0 ≤ i
  · have hj : i.toNat = j := by
      rw [seqIndex_of h0 h5] at h1
      exact Option.some.inj h1
    exact item_listR pl.isList h0 (by omega) (by rw [hj]; simpa using ew) fin hs
  · have hj : (i + (its.toArray.size : Int)).toNat = j := by
      rw [seqIndex_neg (by omega) h4] at h1
      rw [List.size_toArray, ← hl]
      exact Option.some.inj h1
    exact subscriptTail_builtinR (x := w) pl.isList.typeIs slot_list_getitem.lookup
      (wpAny_getItem_list_neg (Q := fun r s' => r = w ∧ EP X pins σ Q r s') pl.isList (by omega) (by rw [List.size_toArray] <;> omega) (by omega) (by rw [hj]; simpa using ew) ⟨rfl, fin⟩) hs
theorem ix_tup : IxR X (rIxT X.K) := by
  intro value slice pins s σ H x y v u Q I rx ry h hs
  obtain ⟨p, xs, i, z, rfl, rfl, hq, he, q⟩ := h
  cases rx
  obtain ⟨t, rfl⟩ := ry
  obtain ⟨its, r, pl, hz⟩ := I.tuple hq
  obtain ⟨j, h1, h2, h3, h4, h5⟩ := atI_get he
  obtain ⟨w, ew, rw'⟩ := r.get h2
  have hl := r.length
  have hn := line63
  have fin : EP X pins σ Q w s := ⟨z, H, I, rw', q⟩
  exact subscriptTail_builtinR (x := w) pl.typeIs slot_tuple_getitem.lookup
    (getItem_tuple (j := j) (Q := fun r s' => r = w ∧ EP X pins σ Q r s') pl (by omega) (by omega) (by rw [List.size_toArray, ← hl]; exact h1) (by simpa using ew) ⟨rfl, fin⟩) hs
theorem ix_str : IxR X rIxS := by
  intro value slice pins s σ H x y v u Q I rx ry h hs
  obtain ⟨z, i, c, rfl, rfl, hz, he, q⟩ := h
  obtain ⟨t, rfl⟩ := rx
  obtain ⟨t', rfl⟩ := ry
  obtain ⟨j, h1, h2, h3, h4, h5⟩ := atI_get he
  have hl : z.cps.toList.length = z.length := by simp [Str.length]
  rw [hl] at h1 h4 h5
  have hn := line63
  exact tail_any (typeIs_str s z t) slot_str_getitem.lookup (getItem_str (c := c) (by
    have e1 : decide (i < -(2 ^ 63 : Int)) = false := decide_eq_false (by omega)
    have e2 : decide (i ≥ 2 ^ 63) = false := decide_eq_false (by omega)
    rw [e1, e2, Bool.or_false]) (by rw [h1]; simpa using h2) ⟨.str ⟨#[c]⟩, H, I.tok _, ⟨_, rfl⟩, q⟩) hs
def rIx (K : PySem.W.Frag) : R2 := fun x y H Q => rIxL K x y H Q ∨ rIxT K x y H Q ∨ rIxS x y H Q
theorem ix_seq : IxR X (rIx X.K) := ix_list.or (ix_tup.or ix_str)
theorem mapSeq_set (its : List Value) (n j : Nat) (u : Value) : Obj.mapSeq (·.setIfInBounds j u) { cls := .type "list", data := .seq its.toArray n } = { cls := .type "list", data := .seq (its.set j u).toArray n } := by
  simp [Obj.mapSeq]
theorem Inv.lst {pins : List (Addr × Obj)} {σ : St} {H : Hp} {s : Shared} {p : Addr} {xs : List V} (I : Inv X pins σ H s) (h : H p = some (.lst xs)) :
    ∃ (its : List Value) (n : Nat), Vals xs its ∧ s.heap.get? p = some { cls := .type "list", data := .seq its.toArray n } ∧ xs.length ≤ sizeLine := by
  obtain ⟨z, its, n, r, e⟩ := I.hok p _ h
  exact ⟨its, n, r, e, z⟩
theorem Inv.lstUpd {pins : List (Addr × Obj)} {σ : St} {H : Hp} {s : Shared} {p : Addr} {xs ys : List V} {its its' : List Value} {n n' : Nat} {f : Obj → Obj} (I : Inv X pins σ H s) (h : H p = some (.lst xs))
    (ho : s.heap.get? p = some { cls := .type "list", data := .seq its.toArray n }) (hf : f { cls := .type "list", data := .seq its.toArray n } = { cls := .type "list", data := .seq its'.toArray n' }) (r : Vals ys its') (hz : ys.length ≤ sizeLine) (t : Nat) :
    Inv X pins σ (upd H p (.lst ys)) { s with heap := s.heap.update p f, toks := t } := by
  have e : (s.heap.update p f).get? p = some { cls := .type "list", data := .seq its'.toArray n' } := by
    rw [Heap.get?_update_self f ho (by rw [hf] <;> rfl), hf]
  refine I.write (x := p) (e := p) (by rw [h]; trivial) (.inl rfl) (fun b u hb q => (Heap.get?_update_other _ _ (Ne.symm hb)).trans q) ⟨_, e⟩ ?_
  exact ⟨hz, its', n', r, e⟩
def rSetL : V → V → V → Hp → (Hp → Prop) → Prop := fun o i v H Q => ∃ p xs k j, o = .ref p ∧ i = .int k ∧ H p = some (.lst xs) ∧ ixN xs.length k = some j ∧ Q (upd H p (.lst (xs.set j v)))
theorem set_list : PSet X rSetL := by
  intro pins s σ H o i v ov iv u Q I ro ri rv h
  obtain ⟨p, xs, k, j, rfl, rfl, hp, hj, q⟩ := h
  cases ro
  obtain ⟨t, rfl⟩ := ri
  obtain ⟨its, n, r, ho, hz⟩ := I.lst hp
  obtain ⟨h1, h2, h3, h4⟩ := ixN_seq hj
  have hl := r.length
  have hn := line63
  have I' : Inv X pins σ (upd H p (.lst (xs.set j v))) { s with heap := s.heap.update p (Obj.mapSeq (·.setIfInBounds j u)) } :=
    I.lstUpd hp ho (mapSeq_set its n j u) (r.set rv j) (by rw [List.length_set]; exact hz) s.toks
  by_cases h0 : 0 ≤ k
  · have hk : k.toNat = j := by
      rw [seqIndex_of h0 h4] at h1
      exact Option.some.inj h1
    exact PySem.W.ki_setAt ho h0 (by omega) (by rw [List.size_toArray, ← hl]; exact h4) (by rw [hk]; exact ⟨_, I', q⟩)
  · have hk : (k + (its.toArray.size : Int)).toNat = j := by
      rw [seqIndex_neg (by omega) h3] at h1
      rw [List.size_toArray, ← hl]
      exact Option.some.inj h1
    exact PySem.W.ki_setBack ho (by omega) (by rw [List.size_toArray, ← hl]; exact h3) (by omega) (by rw [hk]; exact ⟨_, I', q⟩)
theorem slice_bounds (lo hi : Option Int) (n : Nat) : (sliceBounds lo hi none n).1 = ((HT.sIx n 0 lo : Nat) : Int) ∧ (sliceBounds lo hi none n).2.1 = ((HT.sIx n n hi : Nat) : Int) ∧ (sliceBounds lo hi none n).2.2 = 1 := by
  refine ⟨?_, ?_, rfl⟩
  · cases lo with
    | none => simp [sliceBounds, HT.sIx]
    | some i =>
      simp only [sliceBounds, HT.sIx, Option.getD_none, show (1 : Int) > 0 by decide, if_true]
      by_cases h : i < 0
      · simp only [h, if_true] <;> omega
      · simp only [h, if_false] <;> omega
  · cases hi with
    | none => simp [sliceBounds, HT.sIx]
    | some i =>
      simp only [sliceBounds, HT.sIx, Option.getD_none, show (1 : Int) > 0 by decide, if_true]
      by_cases h : i < 0
      · simp only [h, if_true] <;> omega
      · simp only [h, if_false] <;> omega
theorem slicePick_cut (its : List Value) (lo hi : Option Int) : slicePick its.toArray lo hi none = ((its.drop (HT.sIx its.length 0 lo)).take (HT.sIx its.length its.length hi - HT.sIx its.length 0 lo)).toArray := by
  obtain ⟨h1, h2, h3⟩ := slice_bounds lo hi its.toArray.size
  unfold slicePick
  rw [h1, h2, h3]
  simp only [sliceRange_one, pick_run, List.size_toArray] <;> rfl
def rSlL (K : PySem.W.Frag) : V → Option Int → Option Int → Hp → VK → Prop := fun x lo hi H Q => ∃ a xs, x = .ref a ∧ SqL K H a xs ∧ ∀ p, H p = none → Q (.ref p) (upd H p (.lst (cutV xs lo hi)))
theorem sl_list : SlR X (rSlL X.K) := by
  intro pins s σ H x v vl vu lo hi sl Q I rx hs pl pu h
  obtain ⟨a, xs, rfl, hx, q⟩ := h
  cases rx
  obtain ⟨its, r, ht, hz⟩ := I.list hx
  have hlen := r.length
  refine ⟨"list", _, slot_list_getitem.lookup, ht.isList.typeIs, ?_⟩
  refine wpAny_getItem_list_slice ht.isList hs pl pu .none (by simp) ?_ (by rw [List.size_toArray] <;> omega)
  rw [slicePick_cut, ← hlen]
  refine ⟨.ref s.heap.objs.size, _, I.laid (t' := s.toks) (o := .lst (cutV xs lo hi)) (fun b ob q => Heap.get?_push_of_some _ q) (Nat.le_refl _) ?_, rfl, q _ (I.hok.fresh (Nat.le_refl _))⟩
  exact ⟨Nat.le_trans (cutV_length xs lo hi) hz, _, 0, (r.drop (HT.sIx xs.length 0 lo)).take (HT.sIx xs.length xs.length hi - HT.sIx xs.length 0 lo), Heap.get?_push_size _ rfl⟩
theorem call_len_seq : CallR X (.builtin "len") (fun xs H Q => ∃ p ys, xs = [.ref p] ∧ (SqL X.K H p ys ∨ SqT X.K H p ys) ∧ Q (.int ys.length) H) := by
  intro pins s σ H xs us Q I r h
  obtain ⟨p, ys, rfl, hq, q⟩ := h
  obtain ⟨u, rfl, rx⟩ := vals1 r
  cases rx
  have hn := line63
  rcases hq with hq | hq
  · obtain ⟨its, r', pl, hz⟩ := I.list hq
    have hlen := r'.length
    exact Calls.call_len_list pl.isList (by simp only [List.size_toArray] <;> omega) ⟨.int ys.length, H, I.tok _, ⟨s.toks + 1, by rw [List.size_toArray, hlen]⟩, q⟩
  · obtain ⟨its, r', pl, hz⟩ := I.tuple hq
    have hlen := r'.length
    exact len_tuple pl (by simp only [List.size_toArray] <;> omega) ⟨.int ys.length, H, I.tok _, ⟨s.toks + 1, by rw [List.size_toArray, hlen]⟩, q⟩
theorem call_list_of : CallR X (.type "list") (fun xs H Q => ∃ p ys, xs = [.ref p] ∧ (SqL X.K H p ys ∨ SqT X.K H p ys) ∧ ∀ l, H l = none → Q (.ref l) (upd H l (.lst ys))) := by
  intro pins s σ H xs us Q I r h
  obtain ⟨p, ys, rfl, hq, q⟩ := h
  obtain ⟨u, rfl, rx⟩ := vals1 r
  cases rx
  have fin : ∀ (its : List Value), Vals ys its → ys.length ≤ sizeLine → ∀ (h' : Heap) (c' : Nat), (∀ b o', s.heap.get? b = some o' → h'.get? b = some o') →
      h'.get? s.heap.objs.size = some { cls := .type "list", dict := none, data := .seq its.toArray c', slots := #[] } → EP X pins σ Q (.ref s.heap.objs.size) { s with heap := h' } := fun its r' hz h' c' kp e =>
    ⟨.ref s.heap.objs.size, _, I.laid (t' := s.toks) kp (Nat.le_refl _) (show ObjOk X.prog X.w _ h' _ (.lst ys) from ⟨hz, its, c', r', e⟩), rfl, q _ (I.hok.fresh (Nat.le_refl _))⟩
  rcases hq with hq | hq
  · obtain ⟨its, r', pl, hz⟩ := I.list hq
    have hlen := r'.length
    obtain ⟨o, ho, hc, n, hd⟩ := pl.isList
    exact call_list_seq p (.inl rfl) ho hc hd (fun h' c' kp e => fin its r' hz h' c' kp e) (by simp only [List.size_toArray] <;> omega)
  · obtain ⟨its, r', pl, hz⟩ := I.tuple hq
    have hlen := r'.length
    obtain ⟨o, ho, hc, n, hd⟩ := pl
    exact call_list_seq p (.inr rfl) ho hc hd (fun h' c' kp e => fin its r' hz h' c' kp e) (by simp only [List.size_toArray] <;> omega)
theorem call_tuple_of : CallR X (.type "tuple") (fun xs H Q => ∃ p ys, xs = [.ref p] ∧ ((SqL X.K H p ys ∧ ∀ l, H l = none → Q (.ref l) (upd H l (.tup ys))) ∨ (SqT X.K H p ys ∧ Q (.ref p) H))) := by
  intro pins s σ H xs us Q I r h
  obtain ⟨p, ys, rfl, h⟩ := h
  obtain ⟨u, rfl, rx⟩ := vals1 r
  cases rx
  rcases h with ⟨hq, q⟩ | ⟨hq, q⟩
  · obtain ⟨its, r', pl, hz⟩ := I.list hq
    have hlen := r'.length
    refine call_tuple_list pl.isList (fun h' kp => ?_) (by simp only [List.size_toArray] <;> omega)
    have I1 : Inv X pins σ H { s with heap := h' } := I.kept (t' := s.toks) kp
    have I2 : Inv X pins σ (upd H h'.objs.size (.tup ys)) { s with heap := h'.push { cls := .type "tuple", data := .seq its.toArray } } :=
      I1.laid (t' := s.toks) (fun b o e => Heap.get?_push_of_some _ e) (Nat.le_refl _) (show ObjOk X.prog X.w _ _ _ (.tup ys) from ⟨hz, its, r', IsTup.new _ _⟩)
    exact ⟨.ref h'.objs.size, _, I2, rfl, q _ (I1.hok.fresh (Nat.le_refl _))⟩
  · obtain ⟨its, r', pl, hz⟩ := I.tuple hq
    exact call_tuple_same pl ⟨.ref p, H, I, rfl, q⟩
def tyV (K : PySem.W.Frag) (T : String) (x : V) (H : Hp) : Prop := match x with
  | .str _ => T = "str"
  | .int _ => T = "int"
  | .ref p => (T = "list" ∧ ∃ xs, SqL K H p xs) ∨ (T = "tuple" ∧ ∃ o, K.lookup p = some o ∧ o.cls = .type "tuple" ∧ o.dict = none) ∨
      (T = "dict" ∧ ((∃ kvs, H p = some (.dK kvs)) ∨ ∃ kvs, H p = some (.dT kvs))) ∨ (T = "set" ∧ ∃ S n, H p = some (.set S n))
  | _ => False
theorem tyV_is {pins : List (Addr × Obj)} {σ : St} {H : Hp} {s : Shared} {T : String} {x : V} {v : Value} (I : Inv X pins σ H s) (r : RelV x v) (ty : tyV X.K T x H) :
    s.TypeIs v T ∧ ∀ a, v = .ref a → ∃ ob, s.heap.get? a = some ob ∧ ob.dict = none := by
  cases x with
  | str z =>
    obtain ⟨t, rfl⟩ := r
    cases (show T = "str" from ty)
    exact ⟨typeIs_str s z t, fun _ e => nomatch e⟩
  | int i =>
    obtain ⟨t, rfl⟩ := r
    cases (show T = "int" from ty)
    exact ⟨typeIs_int s i t, fun _ e => nomatch e⟩
  | ref p =>
    cases r
    rcases ty with ⟨rfl, xs, hq⟩ | ⟨rfl, o, hk, hc, hd⟩ | ⟨rfl, hk⟩ | ⟨rfl, S, n, hk⟩
    · obtain ⟨its, _, pl, _⟩ := I.list hq
      refine ⟨pl.isList.typeIs, fun a e => ?_⟩
      cases e
      obtain ⟨o, n, e, c, hd, _⟩ := pl
      exact ⟨o, e, hd⟩
    · refine ⟨⟨o, I.kIn p o hk, hc⟩, fun a e => ?_⟩
      cases e
      exact ⟨o, I.kIn _ o hk, hd⟩
    · have z : ∃ o, s.heap.get? p = some o ∧ o.ExactDict := by
        rcases hk with ⟨kvs, hk⟩ | ⟨kvs, hk⟩
        · obtain ⟨_, _, _, _, o, _, _, e, ex, _⟩ := I.hok p _ hk
          exact ⟨o, e, ex⟩
        · obtain ⟨_, _, _, _, o, _, _, e, ex, _⟩ := I.hok p _ hk
          exact ⟨o, e, ex⟩
      obtain ⟨o, e, ex⟩ := z
      refine ⟨⟨o, e, ex.1⟩, fun a e2 => ?_⟩
      cases e2
      exact ⟨o, e, ex.2.1⟩
    · obtain ⟨o, _, _, _, e, ex, _⟩ := I.hok p _ hk
      refine ⟨⟨o, e, ex.1⟩, fun a e2 => ?_⟩
      cases e2
      exact ⟨o, e, ex.2.1⟩
  | _ => exact False.elim ty
def tBM (K : PySem.W.Frag) (T : String) (r : V → List V → Hp → VK → Prop) (to : TE) (t : TA) : TE := fun σ H Q => to σ H fun x H1 => tyV K T x H1 ∧ t σ H1 fun xs H2 => r x xs H2 Q
variable {o e : Expr} {es : List Expr} {to : TE} {t : TA} {name : Str} {apos cpos : Pos} {T id : String} {r : V → List V → Hp → VK → Prop}
theorem pe_bm (pa : PlainAttrs T) (slot : Slot T name id) (hty : typeOf (.builtin id) = pure (.type "method_descriptor")) (hm : MtR X id r) (ho : PE X o to) (ha : PA X (e :: es) t)
    (hbase : attributeBase o name X.env (eval o X.env) = eval o X.env := by rfl)
    (hfew : ((backTo cpos (starEach (e :: es) X.env)).all (fun x => !x.1) && (backToKw cpos (keywordEach [] X.env)).all (fun x => x.1.isSome)
      && decide ((e :: es).length + ([] : List Keyword).length + (if ([] : List Keyword).isEmpty then 0 else 1) < 30)) = true := by rfl)
    (hline : (apos.endLine == cpos.line) = true := by rfl) (hs : starEach (e :: es) X.env = (false, eval e X.env) :: starEach es X.env := by rfl) (hplain : (backTo cpos (starEach es X.env)).any (·.1) = false := by rfl) :
    PE X (.Call (.Attribute o name apos) (e :: es) [] cpos) (tBM X.K T r to t) := by
  intro pins s σ H Q I h
  refine wpAny_Call_method_late hbase hfew hline rfl (thn (ho pins s σ H _ I h) fun v s1 ⟨x, H1, I1, r1, ty, q1⟩ => ?_)
  obtain ⟨h1, h2⟩ := tyV_is I1 r1 ty
  refine ⟨T, id, pa, slot, hty, h1, h2, ?_⟩
  have hA := ha cpos pins s1 σ H1 _ I1 q1
  rw [hs] at hA ⊢
  refine Calls.callWith_builtin (by show (false || (backTo cpos (starEach es X.env)).any (·.1)) = false; rw [hplain] <;> rfl) (Calls.evalArgs_plain ?_)
  exact thn hA fun us s2 ⟨vs, H2, I2, r2, q2⟩ => hm pins s2 σ H2 x vs v us Q I2 r1 r2 q2
/- xs.append(e), list.index on a module's tuple .. are MtR facts of 06m -/
end
end L2
namespace L2
open PySem PySem.Spec PyProof.Rows
def MtM (X : Cx) (id : String) (r : V → List V → Hp → VK → Prop) : Prop :=
  ∀ (pins : List (Addr × Obj)) (s : Shared) (σ : St) (H : Hp) (x : V) (xs : List V) (v : Value) (us : List Value) (Q : VK), Inv X pins σ H s → RelV x v → Vals xs us → r x xs H Q →
    wpAny (model X.prog X.w) X.A (call (.builtin id) (v :: us)) (EP X pins σ Q) X.xe s
theorem Vals.one : ∀ {x : V} {us : List Value}, Vals [x] us → ∃ u, us = [u] ∧ RelV x u
  | _, _, .cons r .nil => ⟨_, rfl, r⟩
section
variable {X : Cx} {pins : List (Addr × Obj)} {σ : St} {H : Hp} {s : Shared} {l b : Addr} {xs ys zs : List V}
theorem Inv.lset {its its' : List Value} {n : Nat} {f : Array Value → Array Value} {t' : Nat} (I : Inv X pins σ H s) (hH : H l = some (.lst xs))
    (e : s.heap.get? l = some { cls := .type "list", data := .seq its.toArray n }) (hf : f its.toArray = its'.toArray) (hv : Vals ys its') (hz : ys.length ≤ sizeLine) :
    Inv X pins σ (upd H l (.lst ys)) { s with heap := s.heap.update l (Obj.mapSeq f), toks := t' } := by
  have q := PySem.IsL.update e f
  rw [hf] at q
  refine I.write (x := l) (e := l) (by rw [hH]; exact trivial) (.inl rfl) (fun b' u hb hu => (Heap.get?_update_other s.heap (Obj.mapSeq f) (Ne.symm hb)).trans hu) ⟨_, q⟩ ?_
  exact ⟨hz, its', _, hv, q⟩
theorem Inv.lnew {its : List Value} {t' : Nat} (I : Inv X pins σ H s) (hv : Vals ys its) (hz : ys.length ≤ sizeLine) :
    Inv X pins σ (upd H s.heap.objs.size (.lst ys)) { s with heap := s.heap.push { cls := .type "list", data := .seq its.toArray }, toks := t' } :=
  I.laid (fun _ _ q => Heap.get?_push_of_some _ q) (Nat.le_refl _) ⟨hz, its, 0, hv, Heap.get?_push_size _ rfl⟩
theorem Inv.fresh (I : Inv X pins σ H s) : H s.heap.objs.size = none := I.hok.fresh (Nat.le_refl _)
theorem Inv.lstM (I : Inv X pins σ H s) (hH : H l = some (.lst xs)) : xs.length ≤ sizeLine ∧ ∃ (its : List Value) (n : Nat), Vals xs its ∧ xs.length = its.length ∧ s.heap.get? l = some { cls := .type "list", data := .seq its.toArray n } := by
  obtain ⟨z, its, n, r, e⟩ := I.hok l _ hH
  exact ⟨z, its, n, r, r.length, e⟩
end
section
variable {X : Cx}
def rAppend : V → List V → Hp → VK → Prop := fun x vs H Q => ∃ l xs y, x = .ref l ∧ vs = [y] ∧ H l = some (.lst xs) ∧ xs.length < sizeLine ∧ Q .non (upd H l (.lst (xs ++ [y])))
theorem mt_append : MtM X "list.append" rAppend := by
  intro pins s σ H x vs v us Q I rx rv h
  obtain ⟨l, xs, y, rfl, rfl, hH, hz, q⟩ := h
  cases rx
  obtain ⟨u, rfl, ru⟩ := rv.one
  obtain ⟨z, its, n, r, hl, e⟩ := I.lstM hH
  refine call_meets F.slot_list_append ⟨_, e, rfl⟩ F.entry_list_append (F.args_list_append_2 _ _) (PySem.list_append l its.toArray n u (by rw [List.size_toArray]; omega)) ⟨e, ?_⟩
  refine ⟨.non, _, I.lset (its' := its ++ [u]) hH e (by simp) (r.append (.cons ru .nil)) ?_, rfl, q⟩
  rw [List.length_append, List.length_singleton]
  omega
end
end L2
namespace L2
open PySem PySem.Spec PyProof.Rows
section
variable {κ : Type} [DecidableEq κ]
def valV (kvs : List (κ × V)) (k : κ) : Option V := (kvs.find? fun kv => decide (kv.1 = k)).map (·.2)
def putK (kvs : List (κ × V)) (k : κ) (v : V) : List (κ × V) :=
  if (kvs.any fun kv => decide (kv.1 = k)) = true then kvs.map (fun kv => if kv.1 = k then (kv.1, v) else kv) else kvs ++ [(k, v)]
theorem valV_pos {p : κ × V} {r : List (κ × V)} {k : κ} (e : p.1 = k) : valV (p :: r) k = some p.2 := by simp [valV, List.find?_cons, e]
theorem valV_neg {p : κ × V} {r : List (κ × V)} {k : κ} (e : ¬ p.1 = k) : valV (p :: r) k = valV r k := by simp [valV, List.find?_cons, e]
theorem valV_any (k : κ) : ∀ kvs : List (κ × V), (kvs.any fun kv => decide (kv.1 = k)) = (valV kvs k).isSome
  | [] => rfl
  | p :: r => by
    rw [List.any_cons]
    by_cases e : p.1 = k
    · simp only [valV_pos e, decide_eq_true e, Bool.true_or, Option.isSome_some]
    · rw [valV_neg e, decide_eq_false e, Bool.false_or]; exact valV_any k r
theorem length_putK (kvs : List (κ × V)) (k : κ) (v : V) : (putK kvs k v).length ≤ kvs.length + 1 := by
  unfold putK
  split
  · rw [List.length_map]; omega
  · rw [List.length_append, List.length_cons, List.length_nil]; omega
theorem RelO.isSome_eq {o : Option V} {u : Option Value} (r : RelO o u) : o.isSome = u.isSome := by
  cases o with
  | none => cases u with
    | none => rfl
    | some _ => exact (show False from r).elim
  | some _ => cases u with
    | none => exact (show False from r).elim
    | some _ => rfl
theorem RelO.getD {o : Option V} {u : Option Value} {d : V} {d' : Value} (r : RelO o u) (rd : RelV d d') : RelV (o.getD d) (u.getD d') := by
  cases o with
  | none => cases u with
    | none => exact rd
    | some _ => exact (show False from r).elim
  | some _ => cases u with
    | none => exact (show False from r).elim
    | some _ => exact r
theorem KV.val {kvs : List (κ × V)} {vs : List (κ × Value)} (r : KV kvs vs) (k : κ) : RelO (valV kvs k) (valueAt vs k) := by
  unfold KV at r
  induction r with
  | nil => exact True.intro
  | @cons p q ps qs h t ih =>
    obtain ⟨h1, h2⟩ := h
    by_cases e : p.1 = k
    · have e' : q.1 = k := h1.symm.trans e
      have b : valueAt (q :: qs) k = some q.2 := by simp [valueAt, List.find?_cons, e']
      rw [valV_pos e, b]; exact h2
    · have e' : ¬ q.1 = k := fun z => e (h1.trans z)
      have b : valueAt (q :: qs) k = valueAt qs k := by simp [valueAt, List.find?_cons, e']
      rw [valV_neg e, b]; exact ih
theorem KV.any {kvs : List (κ × V)} {vs : List (κ × Value)} (r : KV kvs vs) (k : κ) : (kvs.any fun kv => decide (kv.1 = k)) = vs.any fun kv => decide (kv.1 = k) := by
  unfold KV at r
  induction r with
  | nil => rfl
  | cons h t ih => rw [List.any_cons, List.any_cons, ih, h.1]
theorem KV.repl {kvs : List (κ × V)} {vs : List (κ × Value)} (r : KV kvs vs) (k : κ) {y : V} {u : Value} (ry : RelV y u) :
    KV (kvs.map fun kv => if kv.1 = k then (kv.1, y) else kv) (vs.map fun kv => if kv.1 = k then (kv.1, u) else kv) := by
  unfold KV at r ⊢
  induction r with
  | nil => exact .nil
  | @cons p q ps qs h t ih =>
    rw [List.map_cons, List.map_cons]
    refine .cons ?_ ih
    obtain ⟨h1, h2⟩ := h
    by_cases e : p.1 = k
    · rw [if_pos e, if_pos (h1.symm.trans e)]; exact ⟨h1, ry⟩
    · rw [if_neg e, if_neg (fun z => e (h1.trans z))]; exact ⟨h1, h2⟩
theorem KV.put {kvs : List (κ × V)} {vs : List (κ × Value)} (r : KV kvs vs) (k : κ) {y : V} {u : Value} (ry : RelV y u) : KV (putK kvs k y) (stored vs k u) := by
  unfold putK stored
  rw [r.any k]
  by_cases e : (vs.any fun kv => decide (kv.1 = k)) = true
  · rw [if_pos e, if_pos e]; exact r.repl k ry
  · rw [if_neg e, if_neg e]; exact Paired.snoc r ⟨rfl, ry⟩
theorem KV.length {kvs : List (κ × V)} {vs : List (κ × Value)} (r : KV kvs vs) : kvs.length = vs.length := Paired.length r
end
theorem kV_is {P : Program} {w : World} {k : Key} {u : Value} (r : RelV (kV k) u) : (mixKind P w).is k u = true := by
  cases k with
  | inl i => obtain ⟨t, e⟩ := (show ∃ t, u = Value.int i t from r); subst e; exact mixKind_int P w i t
  | inr x => obtain ⟨t, e⟩ := (show ∃ t, u = Value.str x t from r); subst e; exact mixKind_str P w x t
theorem items_are {P : Program} {w : World} : ∀ {ks : List Key} {us : List Value}, Vals (ks.map kV) us → ItemsAre (mixKind P w) ks us
  | [], _, r => by rw [List.map_nil] at r; cases r; exact .nil
  | k :: ks, _, r => by
    rw [List.map_cons] at r
    cases r with
    | cons h t => exact .cons (kV_is h) (items_are t)
abbrev KT (H : Hp) : List (List Key × V) → List (List Key × Addr × Value) → Prop := Paired fun p q => p.1 = q.1 ∧ H q.2.1 = some (.tup (p.1.map kV)) ∧ RelV p.2 q.2.2
theorem KT.val {H : Hp} {kvs : List (List Key × V)} {xs : List (List Key × Addr × Value)} (r : KT H kvs xs) (k : List Key) : RelO (valV kvs k) ((atKey xs k).map (·.2)) := by
  induction r with
  | nil => exact True.intro
  | @cons p q ps qs h t ih =>
    obtain ⟨h1, _, h2⟩ := h
    by_cases e : p.1 = k
    · have e' : q.1 = k := h1.symm.trans e
      have b : atKey (q :: qs) k = some q.2 := by simp [atKey, List.find?_cons, e']
      rw [valV_pos e, b]; exact h2
    · have e' : ¬ q.1 = k := fun z => e (h1.trans z)
      have b : atKey (q :: qs) k = atKey qs k := by simp [atKey, List.find?_cons, e']
      rw [valV_neg e, b]; exact ih
theorem KT.repl {H : Hp} {kvs : List (List Key × V)} {xs : List (List Key × Addr × Value)} (r : KT H kvs xs) (k : List Key) {y : V} {u : Value} (ry : RelV y u) :
    KT H (kvs.map fun kv => if kv.1 = k then (kv.1, y) else kv) (xs.map (putAt k u)) := by
  induction r with
  | nil => exact .nil
  | @cons p q ps qs h t ih =>
    rw [List.map_cons, List.map_cons]
    refine .cons ?_ ih
    obtain ⟨h1, h2, h3⟩ := h
    unfold putAt
    by_cases e : p.1 = k
    · rw [if_pos e, if_pos (h1.symm.trans e)]; exact ⟨h1, h2, ry⟩
    · rw [if_neg e, if_neg (fun z => e (h1.trans z))]; exact ⟨h1, h2, h3⟩
theorem KT.put {H : Hp} {kvs : List (List Key × V)} {xs : List (List Key × Addr × Value)} (r : KT H kvs xs) (k : List Key) {b : Addr} {y : V} {u : Value} (hb : H b = some (.tup (k.map kV))) (ry : RelV y u) :
    KT H (putK kvs k y) (storedH xs k b u) := by
  have e : (kvs.any fun kv => decide (kv.1 = k)) = (atKey xs k).isSome := by
    rw [valV_any, (r.val k).isSome_eq, Option.isSome_map]
  unfold putK storedH
  rw [e]
  by_cases q : (atKey xs k).isSome = true
  · rw [if_pos q, if_pos q]; exact r.repl k ry
  · rw [if_neg q, if_neg q]; exact Paired.snoc r ⟨rfl, hb, ry⟩
theorem KT.keeps {H H' : Hp} {kvs : List (List Key × V)} {xs : List (List Key × Addr × Value)} (r : KT H kvs xs) (ht : ∀ b ys, H b = some (.tup ys) → H' b = some (.tup ys)) : KT H' kvs xs :=
  Paired.mapP r fun _ _ z => ⟨z.1, ht _ _ z.2.1, z.2.2⟩
section
variable {P : Program} {w : World} {H : Hp} {h : Heap} {a : Addr}
theorem rd_of {u : HO} (ok : HOk P w H h) (e : Rd H a u) : ObjOk P w H h a u := e.ok ok
theorem dk_rd {kvs : List (Key × V)} (ok : HOk P w H h) (e : Rd H a (.dK kvs)) : kvs.length ≤ sizeLine ∧ (a == sysModules) = false ∧ ∃ vs, KV kvs vs ∧ h.DictOf (mixKind P w) a vs :=
  show ObjOk P w H h a (.dK kvs) from rd_of ok e
theorem dk_of {kvs : List (Key × V)} (ok : HOk P w H h) (e : H a = some (.dK kvs)) : kvs.length ≤ sizeLine ∧ (a == sysModules) = false ∧ ∃ vs, KV kvs vs ∧ h.DictOf (mixKind P w) a vs := dk_rd ok (.inl e)
theorem key_of {ks : List Key} (ok : HOk P w H h) (e : H a = some (.tup (ks.map kV))) : (tupleKind (mixKind P w)).is h ks a := by
  obtain ⟨_, its, r, o, h1, h2, n, h3⟩ := (show ObjOk P w H h a (.tup (ks.map kV)) from ok a _ e)
  exact ⟨o, its.toArray, n, h1, h2, h3, by simpa using items_are r⟩
theorem dt_rd {kvs : List (List Key × V)} (ok : HOk P w H h) (e : Rd H a (.dT kvs)) : kvs.length ≤ sizeLine ∧ (a == sysModules) = false ∧
    ∃ xs, KT H kvs xs ∧ h.DictOfH (tupleKind (mixKind P w)) a xs := by
  obtain ⟨z, y, xs, r, o, es, ep, h1, h2, h3, h4, h5⟩ := (show ObjOk P w H h a (.dT kvs) from rd_of ok e)
  refine ⟨z, y, xs, r, o, es, ep, h1, h2, h3, h4, fun x hx => ?_, h5⟩
  have all : ∀ {l : List (List Key × V)} {m : List (List Key × Addr × Value)}, KT H l m → ∀ x ∈ m, (tupleKind (mixKind P w)).is h x.1 x.2.1 := by
    intro l m q
    induction q with
    | nil => intro x hx; exact nomatch hx
    | @cons p q ps qs hq t ih =>
      intro x hx
      rcases List.mem_cons.mp hx with e | hx
      · subst e
        exact key_of ok (by rw [← hq.1]; exact hq.2.1)
      · exact ih x hx
  exact all r x hx
theorem dt_of {kvs : List (List Key × V)} (ok : HOk P w H h) (e : H a = some (.dT kvs)) : kvs.length ≤ sizeLine ∧ (a == sysModules) = false ∧
    ∃ xs, KT H kvs xs ∧ h.DictOfH (tupleKind (mixKind P w)) a xs := dt_rd ok (.inl e)
end
def DGet (H : Hp) (a : Addr) (y : V) (r : Option V) : Prop :=
  (∃ kvs k, Rd H a (.dK kvs) ∧ y = kV k ∧ r = valV kvs k) ∨ ∃ kvs k b, Rd H a (.dT kvs) ∧ y = .ref b ∧ H b = some (.tup (k.map kV)) ∧ r = valV kvs k
def DPut (H : Hp) (a : Addr) (y v : V) (H' : Hp) : Prop :=
  (∃ kvs k, H a = some (.dK kvs) ∧ y = kV k ∧ kvs.length < sizeLine ∧ H' = upd H a (.dK (putK kvs k v))) ∨
  ∃ kvs k b, H a = some (.dT kvs) ∧ y = .ref b ∧ H b = some (.tup (k.map kV)) ∧ kvs.length < sizeLine ∧ H' = upd H a (.dT (putK kvs k v))
theorem DGet.k {H : Hp} {a : Addr} {kvs : List (Key × V)} {k : Key} (e : H a = some (.dK kvs)) : DGet H a (kV k) (valV kvs k) := .inl ⟨kvs, k, .inl e, rfl, rfl⟩
theorem DGet.t {H : Hp} {a b : Addr} {kvs : List (List Key × V)} {k : List Key} (e : H a = some (.dT kvs)) (eb : H b = some (.tup (k.map kV))) : DGet H a (.ref b) (valV kvs k) := .inr ⟨kvs, k, b, .inl e, rfl, eb, rfl⟩
theorem DPut.k {H : Hp} {a : Addr} {kvs : List (Key × V)} {k : Key} {v : V} (e : H a = some (.dK kvs)) (hl : kvs.length < sizeLine) : DPut H a (kV k) v (upd H a (.dK (putK kvs k v))) := .inl ⟨kvs, k, e, rfl, hl, rfl⟩
theorem DPut.t {H : Hp} {a b : Addr} {kvs : List (List Key × V)} {k : List Key} {v : V} (e : H a = some (.dT kvs)) (eb : H b = some (.tup (k.map kV))) (hl : kvs.length < sizeLine) :
    DPut H a (.ref b) v (upd H a (.dT (putK kvs k v))) := .inr ⟨kvs, k, b, e, rfl, eb, hl, rfl⟩
section
variable {X : Cx} {pins : List (Addr × Obj)} {σ : St} {H : Hp} {s : Shared} {a : Addr} {y v : V} {u r : Value} {o : Option V} {A : Around} {E : Value → Shared → Prop}
theorem Inv.big (I : Inv X pins σ H s) : sysModules < s.heap.objs.size := by
  have h : mainGlobals < s.heap.objs.size := (I.mod.glob.keeps I.bk).lt
  exact Nat.lt_trans (by decide) h
theorem d_in {Q : Value → Shared → Prop} (hu : A.units + 1 < cLine) (I : Inv X pins σ H s) (g : DGet H a y o) (ry : RelV y u) (h : ∀ s', Inv X pins σ H s' → Q (.bool o.isSome) s') :
    wpAny (model X.prog X.w) A (compareOp .In u (.ref a)) Q E s := by
  rcases g with ⟨kvs, k, e, ey, l⟩ | ⟨kvs, k, b, e, ey, eb, l⟩
  · subst ey
    obtain ⟨z, hd, vs, rel, dd⟩ := dk_rd I.hok e
    refine wpAny_in_of (kV_is ry) hd dd.mapOf ?_
    rw [← (rel.val k).isSome_eq, ← l]
    exact h _ (I.tok _)
  · subst ey
    cases (show u = Value.ref b from ry)
    obtain ⟨z, hd, xs, rel, dd⟩ := dt_rd I.hok e
    refine wpAny_in_heap (tupleKind_room_in1 hu) (key_of I.hok eb) hd dd ?_
    have q := (rel.val k).isSome_eq
    rw [Option.isSome_map] at q
    rw [← q, ← l]
    exact h _ (I.tok _)
theorem d_write {h' : Heap} {t' : Nat} {ob : HO} (I : Inv X pins σ H s) (mu : Mut (H a)) (hs : Heap.SameBut a s.heap h') (he : ∃ q, h'.get? a = some q) (new : ObjOk X.prog X.w (upd H a ob) h' a ob) :
    Inv X pins σ (upd H a ob) { s with heap := h', toks := t' } :=
  I.write (x := a) (e := a) mu (.inl rfl) (fun b q hb z => (hs.2 b hb).trans z) he new
theorem dk_new {P : Program} {w : World} {H' : Hp} {h' : Heap} {kvs : List (Key × V)} {vs : List (Key × Value)} (z : kvs.length ≤ sizeLine) (hd : (a == sysModules) = false) (rel : KV kvs vs) (dd : h'.DictOf (mixKind P w) a vs) :
    ObjOk P w H' h' a (.dK kvs) := ⟨z, hd, vs, rel, dd⟩
theorem d_setItem {H' : Hp} {Q : Unit → Shared → Prop} (hu : A.units + 1 < cLine) (I : Inv X pins σ H s) (g : DPut H a y v H') (ry : RelV y u) (rv : RelV v r) (h : ∀ s', Inv X pins σ H' s' → Q () s') :
    wpAny (model X.prog X.w) A (setItem (.ref a) u r) Q E s := by
  rcases g with ⟨kvs, k, e, ey, l, eH⟩ | ⟨kvs, k, b, e, ey, eb, l, eH⟩
  · subst ey eH
    obtain ⟨z, hd, vs, rel, dd⟩ := dk_of I.hok e
    have hz : vs.length ≤ sizeLine := by rw [← rel.length]; exact z
    have hl : (putK kvs k v).length ≤ sizeLine := by have := length_putK kvs k v; omega
    refine wpAny_setItem_pairs (hsz := hz) (kV_is ry) dd fun h' dd' hs => h _ ?_
    have he : ∃ q, h'.get? a = some q := let ⟨q, _, _, hq, _⟩ := dd'; ⟨q, hq⟩
    exact d_write I (by rw [e]; exact True.intro) hs he (dk_new hl hd (rel.put k rv) dd')
  · subst ey eH
    cases (show u = Value.ref b from ry)
    obtain ⟨z, hd, xs, rel, dd⟩ := dt_of I.hok e
    have hz : xs.length ≤ sizeLine := by rw [← Paired.length rel]; exact z
    have hl : (putK kvs k v).length ≤ sizeLine := by have := length_putK kvs k v; omega
    refine wpAny_setItem_heap (hsz := hz) (tupleKind_room_in1 hu) (key_of I.hok eb) dd fun h' dd' hs => h _ ?_
    obtain ⟨q, es, ep, hq, h2, h3, h4, _, h5⟩ := dd'
    refine d_write I (by rw [e]; exact True.intro) hs ⟨q, hq⟩ ⟨hl, hd, _, (rel.put k eb rv).keeps fun c ys ec => ?_, q, es, ep, hq, h2, h3, h4, h5⟩
    rw [upd_ne (ne_of ec e (fun z => nomatch z))]
    exact ec
end
def tDIn (ty td : TE) : TE := fun σ H Q => ty σ H fun y H1 => td σ H1 fun x H2 => ∃ a o, x = .ref a ∧ DGet H2 a y o ∧ Q (.bl o.isSome) H2
def sDPut (td ty tv : TE) : TS := fun D σ H => tv σ H fun v H1 => td σ H1 fun x H2 => ty σ H2 fun y H3 => ∃ a H4, x = .ref a ∧ DPut H3 a y v H4 ∧ D.nx σ H4
section
variable {X : Cx} {o i e value : Expr} {pos pos' tpos : Pos} {td ty tv : TE}
theorem pc_din (hu : X.A.units + 1 < cLine) (hi : PE X i ty) (ho : PE X o td) : PC X .In i o (tDIn ty td) := by
  intro pins s σ H Q I h
  refine thn (hi pins s σ H _ I h) fun iv s1 ⟨y, H1, I1, ry, q1⟩ => thn (ho pins s1 σ H1 _ I1 q1) fun u s2 ⟨x, H2, I2, rx, a, ov, ex, g, q2⟩ => ?_
  subst ex
  obtain rfl : u = Value.ref a := rx
  exact d_in hu I2 g ry fun s3 I3 => ⟨.bl ov.isSome, H2, I3, rfl, q2⟩
theorem ps_dput (hu : X.A.units + 1 < cLine) (ho : PE X o td) (hi : PE X i ty) (hv : PE X value tv) (hs : swapsWith value (some (.Subscript o i pos')) pos.line X.env = pure false) :
    PS X (.Assign [.Subscript o i pos'] value pos) (sDPut td ty tv) := by
  intro pins s σ H D I h
  refine wpAny_Assign_Subscript (thn (hv pins s σ H _ I h) fun r s1 ⟨v, H1, I1, rv, q1⟩ => thn (ho pins s1 σ H1 _ I1 q1) fun u s2 ⟨x, H2, I2, rx, q2⟩ => thn (hi pins s2 σ H2 _ I2 q2) fun iv s3 ⟨y, H3, I3, ry, a, H4, ex, g, q3⟩ => ?_) hs
  subst ex
  obtain rfl : u = Value.ref a := rx
  exact d_setItem hu I3 g ry rv fun s4 I4 => ⟨σ, H4, I4, q3⟩
end
theorem dk_empty {P : Program} {w : World} {H : Hp} (h : Heap) (hb : sysModules < h.objs.size) : ObjOk P w H (h.push { cls := .type "dict", data := .dict #[] }) h.objs.size (.dK []) :=
  ⟨Nat.zero_le _, beq_eq_false_iff_ne.mpr (Ne.symm (Nat.ne_of_lt hb)), [], .nil, Heap.DictOf.new h⟩
theorem dt_empty {P : Program} {w : World} {H : Hp} (h : Heap) (hb : sysModules < h.objs.size) : ObjOk P w H (h.push { cls := .type "dict", data := .dict #[] }) h.objs.size (.dT []) :=
  ⟨Nat.zero_le _, beq_eq_false_iff_ne.mpr (Ne.symm (Nat.ne_of_lt hb)), [], .nil, _, #[], 0, Heap.get?_push_size _ rfl, ⟨rfl, rfl, rfl⟩, rfl, rfl, List.nodup_nil⟩
def tDNewT : TE := fun _ H Q => ∀ p, H p = none → Q (.ref p) (upd H p (.dT []))
section
variable {X : Cx} {pos : Pos}
theorem pe_dnewT : PE X (.Dict [] [] pos) tDNewT := fun pins s σ H Q I h =>
  wpAny_Dict_empty ⟨.ref s.heap.objs.size, _, I.laid (a := s.heap.objs.size) (o := .dT []) (t' := s.toks) (fun _ _ q => Heap.get?_push_of_some _ q) (Nat.le_refl _) (dt_empty s.heap I.big), rfl, h _ (I.hok.fresh (Nat.le_refl _))⟩
end
structure M1 (X : Cx) (o : Expr) (m : Str) (apos : Pos) (e : Expr) (cpos : Pos) : Prop where
  base : attributeBase o m X.env (eval o X.env) = eval o X.env
  few : ((backTo cpos (starEach [e] X.env)).all (fun x => !x.1) && (backToKw cpos (keywordEach [] X.env)).all (fun x => x.1.isSome)
    && decide (([e] : List Expr).length + ([] : List Keyword).length + (if ([] : List Keyword).isEmpty then 0 else 1) < 30)) = true
  line : (apos.endLine == cpos.line) = true
  trees : backTo cpos (starEach [e] X.env) = [(false, eval e X.env)]
structure M2 (X : Cx) (o : Expr) (m : Str) (apos : Pos) (e f : Expr) (cpos : Pos) : Prop where
  base : attributeBase o m X.env (eval o X.env) = eval o X.env
  few : ((backTo cpos (starEach [e, f] X.env)).all (fun x => !x.1) && (backToKw cpos (keywordEach [] X.env)).all (fun x => x.1.isSome)
    && decide (([e, f] : List Expr).length + ([] : List Keyword).length + (if ([] : List Keyword).isEmpty then 0 else 1) < 30)) = true
  line : (apos.endLine == cpos.line) = true
  trees : backTo cpos (starEach [e, f] X.env) = [(false, eval e X.env), (false, eval f X.env)]
def IsD (H : Hp) (a : Addr) : Prop := (∃ kvs, Rd H a (.dK kvs)) ∨ ∃ kvs, Rd H a (.dT kvs)
theorem isD_at {X : Cx} {pins : List (Addr × Obj)} {σ : St} {H : Hp} {s : Shared} {a : Addr} (I : Inv X pins σ H s) (d : IsD H a) :
    s.TypeIs (.ref a) "dict" ∧ (∀ b, Value.ref a = .ref b → ∃ ob, s.heap.get? b = some ob ∧ ob.dict = none) ∧ (a == sysModules) = false := by
  rcases d with ⟨kvs, e⟩ | ⟨kvs, e⟩
  · obtain ⟨_, hd, vs, _, dd⟩ := dk_rd I.hok e
    refine ⟨dd.typeIs, fun b q => ?_, hd⟩
    cases q
    obtain ⟨ob, _, _, h1, h2, _⟩ := dd
    exact ⟨ob, h1, h2.2.1⟩
  · obtain ⟨_, hd, xs, _, dd⟩ := dt_rd I.hok e
    refine ⟨dd.typeIs, fun b q => ?_, hd⟩
    cases q
    obtain ⟨ob, _, _, h1, h2, _⟩ := dd
    exact ⟨ob, h1, h2.2.1⟩
section
variable {X : Cx} {pins : List (Addr × Obj)} {σ : St} {H : Hp} {s : Shared} {a : Addr} {y d : V} {u r : Value} {o : Option V} {A : Around} {E : Value → Shared → Prop}
theorem d_get2 {Q : Value → Shared → Prop} (hu : A.units + 1 < cLine) (I : Inv X pins σ H s) (g : DGet H a y o) (ry : RelV y u) (rd : RelV d r) (h : ∀ w' s', Inv X pins σ H s' → RelV (o.getD d) w' → Q w' s') :
    wpAny (model X.prog X.w) A (call (.builtin "dict.get") [.ref a, u, r]) Q E s := by
  rcases g with ⟨kvs, k, e, ey, l⟩ | ⟨kvs, k, b, e, ey, eb, l⟩
  · subst ey
    obtain ⟨z, hd, vs, rel, dd⟩ := dk_rd I.hok e
    refine call_meetsIn PySem.F.slot_dict_get dd.typeIs PySem.F.entry_dict_get (PySem.F.args_dict_get_3 _ _ _) (meets_dict_get_default (mixKind X.prog X.w) a (kV_is ry) hd r) ⟨_, dd.mapOf, h _ _ (I.tok _) ?_⟩
    rw [l]
    exact (rel.val k).getD rd
  · subst ey
    cases (show u = Value.ref b from ry)
    obtain ⟨z, hd, xs, rel, dd⟩ := dt_rd I.hok e
    refine call_meetsIn PySem.F.slot_dict_get dd.typeIs PySem.F.entry_dict_get (PySem.F.args_dict_get_3 _ _ _) (meetsH_dict_get_default (tupleKind (mixKind X.prog X.w)) a b hd r) ⟨tupleKind_room_in1 hu, k, xs, key_of I.hok eb, dd, h _ _ (I.tok _) ?_⟩
    rw [l]
    exact (rel.val k).getD rd
end
def tDGet2 (td ty tx : TE) : TE := fun σ H Q => td σ H fun x H1 => ∃ a, x = .ref a ∧ IsD H1 a ∧ ty σ H1 fun y H2 => tx σ H2 fun z H3 => ∃ o, DGet H3 a y o ∧ Q (o.getD z) H3
section
variable {X : Cx} {o e f : Expr} {apos cpos : Pos} {td ty tx : TE}
theorem pe_dget2 (hu : X.A.units + 1 < cLine) (ho : PE X o td) (he : PE X e ty) (hf : PE X f tx) (m : M2 X o "get" apos e f cpos) : PE X (.Call (.Attribute o "get" apos) [e, f] [] cpos) (tDGet2 td ty tx) := by
  intro pins s σ H Q I h
  refine wpAny_Call_method m.base m.few m.line PySem.F.plainAttrs_dict PySem.F.slot_dict_get PySem.F.type_dict_get (thn (ho pins s σ H _ I h) fun u s1 ⟨x, H1, I1, rx, a, ex, d, q1⟩ => ?_)
  subst ex
  obtain rfl : u = Value.ref a := rx
  obtain ⟨t1, t2, _⟩ := isD_at I1 d
  refine ⟨t1, t2, ?_⟩
  rw [m.trees]
  refine Calls.callWith_builtin rfl (Calls.evalArgs_plain (Calls.spliced_cons (thn (he pins s1 σ H1 _ I1 q1) fun iv s2 ⟨y, H2, I2, ry, q2⟩ =>
    Calls.spliced_cons (thn (hf pins s2 σ H2 _ I2 q2) fun fv s3 ⟨z, H3, I3, rz, ov, g, q3⟩ => Calls.spliced_nil ?_))))
  exact d_get2 hu I3 g ry rz fun w' s4 I4 rw' => ⟨_, H3, I4, rw', q3⟩
end
end L2
namespace Att
open PySem PySem.W PySem.Calls PyProof.Rows
theorem ints_of_wellAll {P : Params} {h : Heap} : ∀ (ns : List Int) (vs : List Value), WellAll P h vs (ns.map WData.int) → IntsAre vs ns := by
  intro ns
  induction ns with
  | nil =>
    intro vs w
    rw [List.map_nil] at w
    cases w
    exact .nil
  | cons n ns ih =>
    intro vs w
    rw [List.map_cons] at w
    cases w with
    | cons a b =>
      cases a
      exact .cons _ _ (ih _ b)
theorem script_of {l : OpenLaw} {n : Nat} (hn : l.most = some n) {P : Params} {h : Heap} {args : List WData} {vals : List Value}
    (hpre : l.row.toRowW.claim.pre args = true) (hwl : WellAll P h vals args) :
    ∃ a vs ns, vals = [Value.ref a] ∧ args = [WData.list (ns.map WData.int)] ∧ h.get? a = some { cls := .type "list", data := .seq vs.toArray } ∧ IntsAre vs ns ∧ ns.length ≤ n := by
  have hsh : WShape.hasAll [] args [.list .int] = true := (pre_splitW hpre).1
  have hc : l.pre.holds [] { args := args } = true := (pre_splitW hpre).2
  obtain ⟨d, r, rfl, h1, h2⟩ := hasAllW_cons hsh
  obtain rfl := hasAllW_nil h2
  obtain ⟨xs, rfl, h3⟩ := hasW_list h1
  obtain ⟨ns, rfl⟩ := items_int h3
  have hlen : ns.length ≤ n := by
    unfold OpenLaw.pre at hc
    have h4 : (WTm.not (.lt (.lit (.int (n : Int))) (.len (.arg 0)))).holds [] { args := [.list (ns.map .int)] } = true := by
      have h4 := (holds_andW hc).1
      rw [hn] at h4
      exact h4
    have h5 := condW_of h4 (w_not (w_lt w_lit (w_len_list (w_arg rfl))))
    rw [List.length_map] at h5
    refine Nat.le_of_not_lt fun q => ?_
    have q' : (n : Int) < ((ns.length : Nat) : Int) := by omega
    first
      | (rw [decide_eq_true q'] at h5; exact absurd h5 (by decide))
      | (simp at h5; omega)
  cases hwl with
  | cons w1 w2 =>
    cases w2
    cases w1 with
    | list ho hall => exact ⟨_, _, ns, rfl, rfl, ho, ints_of_wellAll ns _ hall, hlen⟩
theorem post_true (l : OpenLaw) (args : List WData) : l.row.toRowW.claim.post args (.bool true) args = true :=
  postW_of (r := l.row.toRowW) (X := (true == true))
    (show WShape.has [] (.bool true) .bool = true by first | rfl | decide | simp [WShape.has, WShape.arms, WShape.armsAll])
    (show (WTm.eq .res (.lit (.bool true))).value [] { args := args, res := some (.bool true), after := args } = some (.bool (true == true)) from w_eq_bool (w_res rfl) w_lit) rfl
theorem attach_call {l : OpenLaw} {n : Nat} {q : Program} {loose : List Str} {XP : (Str → Option Value) → Heap → Prop} {YP : World → Heap → Prop} {d : DefRec}
    (hn : l.most = some n) (hdf : d.params.defaults = [])
    (call : ∀ (w : World) (s₀ s₁ : Shared) (mg mb : Str → Option Value) (fa : Addr) (o : Obj) (pm cd doc : Value) (a : Addr) (vs : List Value) (ns : List Int),
      Ground q loose [] XP w s₀ mg mb s₁.heap → YP w s₁.heap →
      s₁.heap.get? fa = some o → o.data = .func (docDef d.name d.params d.body d.scope pm cd doc) → s₁.heap.CodeRec cd d.name → mg d.name = some (.ref fa) →
      s₁.heap.get? a = some { cls := .type "list", data := .seq vs.toArray } → IntsAre vs ns → ns.length ≤ n → s₁.gens = #[] →
      codeAny (model l.prog w) callerA (.call (.ref fa) ⟨[.ref a], []⟩) (fun r s' => r = .ok (.ret (.bool true)) ∧ OldK s₁.heap s'.heap ∧ s'.os = s₁.os ∧ AllBare s'.gens) s₁) :
    WalkO q loose XP YP l.row.toRowW d [] (fun f vs => PySem.call f vs) := by
  intro w s₀ s₁ mg mb G Y fa o pm cd doc dV kV ho hd hcd hD hmg hg args vals as hpre hlay hrd hwl hlo
  obtain rfl : dV = .none := Dflts.none hD hdf
  obtain rfl : kV = .none := Dflts.noKw hD
  obtain ⟨a, vs, ns, rfl, rfl, hobj, hints, hlen⟩ := script_of hn hpre hwl
  refine enter_call (codeAny_mono (call w s₀ s₁ mg mb fa o pm cd doc a vs ns G Y ho (fd_plain hd) hcd hmg hobj hints hlen hg) fun r s' hq => ?_)
  obtain ⟨rfl, h2, h3, h4⟩ := hq
  exact ⟨.inl ⟨.bool true, .bool true, [], rfl, fun _ => rfl, .bool true, post_true l _, fun _ => ⟨List.Pairwise.nil, fun _ hm => (nomatch hm)⟩⟩, h2, h3, h4⟩
section
variable {prog : Program} {w : World} {A : Around} {E : Value → Shared → Prop} {s : Shared} {K : Frag}
end
end Att
namespace L2
open PySem PySem.Spec PyProof.Rows
theorem vals_ints : ∀ {vs : List Value} {ns : List Int}, IntsAre vs ns → Vals (ns.map V.int) vs
  | _, _, .nil => .nil
  | _, _, .cons n t h => .cons ⟨t, rfl⟩ (vals_ints h)
def Only (H : Hp) : Prop := ∀ b, H b = none ∨ ∃ o xs, H b = some (.frz o (.lst xs))
theorem law_call {P : Program} {w : World} {K : PySem.W.Frag} {mg mb : Str → Option Value} {CX : CXT} {k : Nat} {fa a : Addr} {fd : FuncData} {x : Str} {sp : Sp} {s₁ : Shared} {vs : List Value} {ns : List Int}
    (KX : K.In s₁.heap) (hns : s₁.heap.Ns mainGlobals mg) (hb : s₁.heap.Ns builtinsNs mb) (hbb : ∀ x : Str, x ≠ "__name__" → mb x = bootBuiltins x) (hlim : s₁.heap.NoLimit) (hsm : ∃ mm, s₁.heap.Ns sysModules mm) (hg : s₁.gens = #[])
    (ha : s₁.heap.get? a = some { cls := .type "list", data := .seq vs.toArray }) (hi : IntsAre vs ns) (hl : ns.length ≤ sizeLine) (hr : Room k callerA)
    (F : ∀ base : Heap, K.In base → base.Ns mainGlobals mg → FnOk P w K mg base CX k fa fd [x] sp) (hbind : ∀ (s : Shared) (u : Value), BindsTo s fd ⟨[u], []⟩ [(x, u)])
    (hsp : ∀ H : Hp, Only H → SqL K H a (ns.map V.int) → sp [.ref a] H (fun v _ => v = .bl true) fun _ _ _ => False)
    (hCX : ∀ H e s', CX [] H s₁ (fun _ _ _ => False) e s' → False) :
    codeAny (model P w) callerA (.call (.ref fa) ⟨[.ref a], []⟩) (fun r s' => r = .ok (.ret (.bool true)) ∧ OldK s₁.heap s'.heap ∧ s'.os = s₁.os ∧ AllBare s'.gens) s₁ := by
  have rv := vals_ints hi
  have lenV := hi.length
  have core : ∀ H : Hp, Only H → SqL K H a (ns.map V.int) → HOk P w H s₁.heap → (∀ b, H b ≠ none → b = a) → (H a ≠ none → K.lookup a = none) →
      codeAny (model P w) callerA (.call (.ref fa) ⟨[.ref a], []⟩) (fun r s' => r = .ok (.ret (.bool true)) ∧ OldK s₁.heap s'.heap ∧ s'.os = s₁.os ∧ AllBare s'.gens) s₁ := by
    intro H hO hS hok hA hK
    have base_of : ∀ {b : Addr} {o : Obj}, s₁.heap.get? b = some o → H b = none → (hidT s₁.heap H).get? b = some o := fun e n => hidT_get e n
    have noA : ∀ {b : Addr} {o : Obj} {es : Array DictEntry} {ep : Nat}, s₁.heap.get? b = some o → o.data = .dict es ep → H b = none := fun {b o es ep} e d => by
      cases q : H b with
      | none => rfl
      | some u =>
        have e' : b = a := hA b (by rw [q]; simp)
        subst e'
        rw [ha] at e; cases e
        have d' : Data.seq vs.toArray _ = Data.dict es ep := d
        cases d'
    have nsK : ∀ {b : Addr} {m : Str → Option Value}, s₁.heap.Ns b m → (hidT s₁.heap H).Ns b m := fun {b m} ⟨o, es, ep, e, d, r⟩ => ⟨o, es, ep, base_of e (noA e d), d, r⟩
    have hKb : K.In (hidT s₁.heap H) := fun b o e => base_of (KX b o e) (by
      cases q : H b with
      | none => rfl
      | some u =>
        have e' : b = a := hA b (by rw [q]; simp)
        subst e'
        rw [hK (by rw [q]; simp)] at e; cases e)
    have hM : Mod K mg (hidT s₁.heap H) := ⟨hKb, nsK hns, ⟨mb, nsK hb, hbb⟩, (let ⟨mc, h1, h2⟩ := hlim; ⟨mc, nsK h1, h2⟩), (let ⟨mm, hmm⟩ := hsm; let ⟨o, es, ep, h1, h2, _⟩ := nsK hmm; ⟨o, es, ep, h1, h2⟩)⟩
    have e0 : Env0 P w K mg (hidT s₁.heap H) callerA [] s₁ H := ⟨rfl, hM, fun b o e => of_hidT e, Nat.le_of_eq (hidT_size _ _), trivial, fun b hb => absurd (show b ∈ ([] : List Addr) from hb) (by simp), hok, .of_eq hg⟩
    refine codeAny_mono ((F _ hKb (nsK hns)).run callerA [] s₁ H ⟨[.ref a], []⟩ [.ref a] [.ref a] _ _ hr e0 (hbind s₁ (.ref a)) (.cons rfl .nil) (hsp H hO hS)) fun r s' h => ?_
    cases r with
    | error e => exact (hCX H e s' h).elim
    | ok fl =>
      cases fl with
      | next => exact False.elim h
      | brk => exact False.elim h
      | cont => exact False.elim h
      | ret u =>
        obtain ⟨v, H', os, bare, un, hok', r', q⟩ := h
        have q' : v = .bl true := q
        subst q'
        obtain rfl : u = Value.bool true := r'
        refine ⟨rfl, OldK.of_keep fun b o e => ?_, os, bare⟩
        cases q : H b with
        | none => exact un.keep b o e q (by intro z; exact absurd (show b ∈ ([] : List Addr) from z) (by simp)) (by simp)
        | some u =>
          rcases hO b with z | ⟨ob, xs, z⟩
          · rw [q] at z; cases z
          · have z2 := un.frzs b ob _ z
            obtain ⟨e1, _⟩ := hok b _ z
            obtain ⟨e2, _⟩ := hok' b _ z2
            rw [e] at e1; cases e1
            exact e2
  cases hk : K.lookup a with
  | some o =>
    have e := KX a o hk
    rw [ha] at e
    cases e
    refine core (fun _ => none) (fun _ => .inl rfl) (.inr ⟨_, vs.toArray, _, hk, rfl, rfl, rfl, by rw [List.size_toArray, lenV]; exact hl, by simpa using rv⟩) (fun b u z => by have z' : (none : Option HO) = some u := z; cases z') (fun b z => absurd rfl z) fun z => absurd rfl z
  | none =>
    refine core (fun b => if b = a then some (.frz { cls := .type "list", data := .seq vs.toArray } (.lst (ns.map V.int))) else none) (fun b => ?_) (.inl (.inr ⟨{ cls := .type "list", data := .seq vs.toArray }, if_pos rfl⟩)) (fun b u z => ?_) (fun b z => ?_) fun _ => hk
    · by_cases hb : b = a
      · exact .inr ⟨_, _, if_pos hb⟩
      · exact .inl (if_neg hb)
    · by_cases hb : b = a
      · have z' := (if_pos hb).symm.trans z
        cases z'
        subst hb
        exact ⟨ha, by rw [List.length_map]; exact hl, vs, _, rv, ha⟩
      · have z' := (if_neg hb).symm.trans z
        cases z'
    · by_cases hb : b = a
      · exact hb
      · exact absurd (if_neg hb) z
end L2
namespace L2
open PySem PySem.Spec PyProof.Rows
abbrev KOf {K : PySem.W.Frag} {h : Heap} (_ : K.In h) : PySem.W.Frag := K
theorem walk_of {l : PySem.W.OpenLaw} {n k : Nat} {q : Program} (hq : PyProof.Rows.importsNone q = true) {loose : List Str} {XP : (Str → Option Value) → Heap → Prop} {YP : World → Heap → Prop} {d : DefRec} {K : Params → PySem.W.Frag} {CX : World → CXT} {sp : World → Sp} {x : Str}
    (hn : l.most = some n) (hn2 : n ≤ sizeLine) (hdf : d.params.defaults = []) (hr : Room k callerA)
    (hY : ∀ (w : World) (h : Heap), YP w h → (K w.params).In h)
    (F : ∀ (w : World) (mg : Str → Option Value) (fa : Addr) (h : Heap), (K w.params).In h → h.Ns mainGlobals mg → mg d.name = some (.ref fa) →
      ∃ fd : FuncData, (∀ (s : Shared) (u : Value), BindsTo s fd ⟨[u], []⟩ [(x, u)]) ∧
        ∀ base : Heap, (K w.params).In base → base.Ns mainGlobals mg → FnOk l.prog w (K w.params) mg base (CX w) k fa fd [x] (sp w))
    (hsp : ∀ (w : World) (H : Hp) (a : Addr) (ns : List Int), ns.length ≤ n → Only H → SqL (K w.params) H a (ns.map V.int) → sp w [.ref a] H (fun v _ => v = .bl true) fun _ _ _ => False)
    (hCX : ∀ (w : World) (H : Hp) (s : Shared) (e : Value) (s' : Shared), CX w [] H s (fun _ _ _ => False) e s' → False) :
    PySem.W.WalkO q loose XP YP l.row.toRowW d [] (fun f vs => PySem.call f vs) := by
  refine Att.attach_call hn hdf fun w s₀ s₁ mg mb fa o pm cd doc a vs ns G Y ho hd hcd hmg hobj hints hlen hg => ?_
  have KX := hY w _ Y
  obtain ⟨fd, hb, hF⟩ := F w mg fa _ KX G.T.g hmg
  exact law_call KX G.T.g G.T.b G.T.builtins G.T.nolimit (let ⟨mm, hmm, _⟩ := (G.T.seer hq).mods; ⟨mm, hmm⟩) hg hobj hints (Nat.le_trans hlen hn2) hr hF hb (fun H hO hS => hsp w H a ns hlen hO hS) fun H e s' => hCX w H s₁ e s'
end L2
/- THE LAST THEOREM (shape; LID, My.* are yours):
   My.Adr: a structure of the addresses that your layer names (classes, functions); My.Txt K t: a structure (Prop) of the equations over K;
   My.txt_mk : {K} {implicit addresses ..} (e1 : nsIn K mainGlobals "law" = some (some (.ref f))) (e2 : K.lookup f = some ⟨oc, od, .func (fnOf "law" "law" params body scope dV kV doc pm an cdv ct), sl⟩) (e3 : codeIn K cdv "law" = true) .. : ∃ t, My.Txt K t
set_option maxRecDepth 100000 in
set_option maxHeartbeats 0 in
theorem PySem.Challenge.cw_LID_holds : PySem.Challenge.rw_LID.Holds := by
  w_on; o_law; k_head; (case hw => w_witness2)
  k_fill
  refine L2.walk_of (l := PySem.Challenge.rw_LID) (n := 63) (k := 40) (x := "script") (CX := fun w => ..) (sp := fun _ => My.sp_law) rfl (by decide) rfl ⟨rfl, by decide, by decide⟩ (fun w h Y => PySem.W.kIn_of Y) ?F ?S ?C
  case F =>
    intro w mg fa h KX G hmg
    have T : ∃ t, My.Txt (L2.KOf KX) t := by
      dsimp only [L2.KOf]                          -- K must stand as «<heap const> w.params» for k_is
      refine' My.txt_mk ?e1 ?e2 ?e3 ..
      (case e1 => PySem.W.k_is)                    -- in the order: a name -> its address -> its object -> its parts
      (case e2 => PySem.W.k_is)
      ..
    obtain ⟨t, T⟩ := T
    have e0 := hmg.symm.trans (PySem.W.mg_of KX G T.law)
    cases e0                                       -- fa is the law's own address
    exact ⟨_, fun s u => .of_eq rfl, fun base kb nb => My.law_fn T kb nb⟩     -- if «.of_eq rfl» comes too early: refine' ⟨_, ?b, fun base kb nb => My.law_fn T kb nb⟩; exact fun s u => .of_eq rfl
  case S => exact fun w H a ns hl hO hS => ..
  case C => exact ..
(the tactic k_is has no namespace: write k_is) -/
namespace L2
open PySem PySem.Spec PyProof.Rows
def inClass (s : Stmt) (j : Nat) : Stmt := match s with
  | .ClassDef _ _ _ body _ _ _ _ _ _ _ => body.getD j (.Pass ⟨0, 0, 0, 0⟩)
  | _ => .Pass ⟨0, 0, 0, 0⟩
def defArgs (s : Stmt) : Arguments := match s with
  | .FunctionDef _ a _ _ _ _ _ _ _ _ => a
  | _ => { posonlyargs := [], args := [], vararg := none, kwonlyargs := [], kw_defaults := [], kwarg := none, defaults := [] }
def defBody (s : Stmt) : List Stmt := match s with
  | .FunctionDef _ _ b _ _ _ _ _ _ _ => b
  | _ => []
def defScope (s : Stmt) : Scope := match s with
  | .FunctionDef _ _ _ _ _ _ sc _ _ _ => sc
  | _ => { kind := .function, names := [], isGenerator := false, isCoroutine := false }
abbrev CX0 : CXT := fun _ _ _ _ _ _ => False
abbrev E0 : XK := fun _ _ _ => False
theorem pass0 {X : Cx} : Passes CX0 X E0 := fun _ _ _ _ _ _ _ h => h.elim
structure Fun (K : PySem.W.Frag) (x qual : Str) (st : Stmt) (f : Addr) (fd : FuncData) : Prop where
  ex : ∃ (oc : Value) (od : Option Addr) (kV doc pm : Value) (an : Option Addr) (cdv ct : Value) (osl : Array (Option Value)),
    fd = PySem.W.fnOf x qual (defArgs st) (defBody st) (defScope st) .none kV doc pm an cdv ct ∧ K.lookup f = some ⟨oc, od, .func fd, osl⟩ ∧ PySem.W.codeIn K cdv qual = true
  kp : PySem.W.keepIn K (.ref f) = true
section
variable {P : Program} {w : World} {K : PySem.W.Frag} {mg : Str → Option Value} {base : Heap}
theorem Fun.ok {x qual : Str} {st : Stmt} {f : Addr} {fd : FuncData} {N ps : List Str} {k : Nat} {sp : Sp} (F : Fun K x qual st f fd) (S : FnScope N ps (defScope st)) (len : ∀ vs H Q E, sp vs H Q E → vs.length = ps.length)
    (hbody : ∀ (cdv : Value) (A : Around) (outer : List Env) (s : Shared) (H : Hp) (vs : List V) (Q : VK) (E : XK), Room k (A.deeper (envOfC qual (defScope st) s.heap.objs.size f cdv)) → sp vs H Q E →
      ∃ t, PSs (cxOf CX0 P w K mg base N qual (defScope st) f cdv A outer s H E).nox (defBody st) t ∧ t { nx := fun _ H' => Q .non H', rt := Q } (start N vs) H) : FnOk P w K mg base CX0 (k + 1) f fd ps sp := by
  obtain ⟨oc, od, kV, doc, pm, an, cdv, ct, osl, rfl, lk, hcd⟩ := F.ex
  refine fn_of lk hcd S len fun A outer s H vs Q E hr hsp => ?_
  obtain ⟨t, h, q⟩ := hbody cdv A outer s H vs Q E hr hsp
  exact ⟨t, h.nox, q⟩
theorem Fun.binds {x qual : Str} {st : Stmt} {f : Addr} {fd : FuncData} {ps : List Str} (F : Fun K x qual st f fd)
    (h : ∀ (kV doc pm : Value) (an : Option Addr) (cdv ct : Value) (us : List Value), us.length = ps.length → bindArgs (PySem.W.fnOf x qual (defArgs st) (defBody st) (defScope st) .none kV doc pm an cdv ct) ⟨us, []⟩ = pure (ps.zip us)) : Binds K fd ps [] := by
  obtain ⟨oc, od, kV, doc, pm, an, cdv, ct, osl, rfl, lk, hcd⟩ := F.ex
  exact .all (h kV doc pm an cdv ct)
theorem fun_mk {x qual : Str} {st : Stmt} {f : Addr} {oc : Value} {od an : Option Addr} {osl : Array (Option Value)} {kV doc pm cdv ct : Value} (l : K.lookup f = some ⟨oc, od, .func (PySem.W.fnOf x qual (defArgs st) (defBody st) (defScope st) .none kV doc pm an cdv ct), osl⟩)
    (c : PySem.W.codeIn K cdv qual = true) (k : PySem.W.keepIn K (.ref f) = true) : Fun K x qual st f (PySem.W.fnOf x qual (defArgs st) (defBody st) (defScope st) .none kV doc pm an cdv ct) := ⟨⟨oc, od, kV, doc, pm, an, cdv, ct, osl, rfl, l, c⟩, k⟩
end
theorem hu_of {A : Around} {k : Nat} (hr : Room k A) : A.units + 1 < cLine := Nat.lt_of_le_of_lt (Nat.add_le_add_left (by decide : 1 ≤ 64) _) hr.units
def Same (H H' : Hp) : Prop := ∀ b o, H b = some o → H' b = some o
theorem Same.refl (H : Hp) : Same H H := fun _ _ h => h
theorem Same.trans {H H1 H2 : Hp} (a : Same H H1) (b : Same H1 H2) : Same H H2 := fun c o h => b c o (a c o h)
theorem Same.free {H H' : Hp} (e : Same H H') {l : Addr} (h : H' l = Option.none) : H l = Option.none := by
  cases q : H l with
  | none => rfl
  | some o =>
    rw [e l o q] at h
    cases h
theorem Same.seq {K : PySem.W.Frag} {H H' : Hp} {a : Addr} {xs : List V} (e : Same H H') (h : SqL K H a xs) : SqL K H' a xs := by
  rcases h with (h | ⟨o, h⟩) | h
  · exact .inl (.inl (e _ _ h))
  · exact .inl (.inr ⟨o, e _ _ h⟩)
  · exact .inr h
end L2

end

section
set_option Elab.async false
set_option linter.all false
set_option maxRecDepth 100000
set_option maxHeartbeats 4000000
namespace L2
open PySem PySem.Spec PyProof.Rows
def closeOf (env : Env) : List (Str × NameKind) → List (Str × Addr) → List (Str × Addr)
  | [], cs => cs
  | y :: r, cs => closeOf env r (if (y.2 == NameKind.free) = true then (y.1, (env.cells.lookup y.1).getD 0) :: cs else cs)
theorem closure_go {env : Env} : ∀ (l : List (Str × NameKind)) (cs : List (Str × Addr)), (∀ y ∈ l, y.2 = .free → ∃ c, env.cells.lookup y.1 = some c) →
    (forIn l cs fun (x : Str × NameKind) (r : List (Str × Addr)) => if (x.2 == NameKind.free) = true then (do
      let a ← cellOf env x.1
      pure (ForInStep.yield ((x.1, a) :: r))) else pure (ForInStep.yield r)) = (pure (closeOf env l cs) : Sem (List (Str × Addr)))
  | [], cs, _ => rfl
  | y :: l, cs, h => by
    rw [List.forIn_cons]
    by_cases hk : (y.2 == NameKind.free) = true
    · obtain ⟨c, hc⟩ := h y List.mem_cons_self (by simpa using hk)
      have e1 : cellOf env y.1 = pure c := by unfold cellOf; rw [hc]
      rw [if_pos hk, e1]
      show (forIn l ((y.1, c) :: cs) _ : Sem _) = _
      rw [closure_go l _ fun z hz => h z (List.mem_cons_of_mem _ hz)]
      conv => rhs; unfold closeOf
      rw [if_pos hk, hc]
      rfl
    · rw [if_neg hk]
      show (forIn l cs _ : Sem _) = _
      rw [closure_go l _ fun z hz => h z (List.mem_cons_of_mem _ hz)]
      conv => rhs; unfold closeOf
      rw [if_neg hk]
theorem closure_eq {scope : Scope} {env : Env} (h : ∀ y ∈ scope.names, y.2 = .free → ∃ c, env.cells.lookup y.1 = some c) : closureFor scope env = pure (closeOf env scope.names []) := by
  have e := closure_go (env := env) scope.names [] h
  unfold closureFor
  show ((forIn scope.names ([] : List (Str × Addr)) fun (x : Str × NameKind) (r : List (Str × Addr)) => if (x.2 == NameKind.free) = true then (do
      let a ← cellOf env x.1
      pure (ForInStep.yield ((x.1, a) :: r))) else pure (ForInStep.yield r)) >>= fun z => pure z : Sem (List (Str × Addr))) = _
  rw [e]
  rfl
theorem close_sub {env : Env} : ∀ (l : List (Str × NameKind)) (cs : List (Str × Addr)), (∀ y ∈ l, y.2 = .free → ∃ c, env.cells.lookup y.1 = some c) → (∀ x c, cs.lookup x = some c → env.cells.lookup x = some c) →
    ∀ x c, (closeOf env l cs).lookup x = some c → env.cells.lookup x = some c
  | [], cs, _, h, x, c, e => h x c e
  | y :: l, cs, hf, h, x, c, e => by
    unfold closeOf at e
    refine close_sub l _ (fun z hz => hf z (List.mem_cons_of_mem _ hz)) ?_ x c e
    intro z d ez
    by_cases hk : (y.2 == NameKind.free) = true
    · rw [if_pos hk] at ez
      obtain ⟨c', hc'⟩ := hf y List.mem_cons_self (by simpa using hk)
      rw [hc'] at ez
      rw [List.lookup_cons] at ez
      by_cases hz : (z == y.1) = true
      · rw [hz] at ez
        have hz' : z = y.1 := by simpa using hz
        rw [hz', hc']
        exact ez
      · have hz' : (z == y.1) = false := by simpa using hz
        rw [hz'] at ez
        exact h z d ez
    · rw [if_neg hk] at ez
      exact h z d ez
theorem close_has {env : Env} : ∀ (l : List (Str × NameKind)) (cs : List (Str × Addr)) (x : Str), ((x, NameKind.free) ∈ l ∨ ∃ c, cs.lookup x = some c) → ∃ c, (closeOf env l cs).lookup x = some c
  | [], cs, x, h => by
    rcases h with h | h
    · exact absurd h (by simp)
    · exact h
  | y :: l, cs, x, h => by
    unfold closeOf
    refine close_has l _ x ?_
    rcases h with h | ⟨c, hc⟩
    · rcases List.mem_cons.mp h with e | e
      · subst e
        refine .inr ?_
        rw [if_pos (by rfl)]
        exact ⟨(env.cells.lookup x).getD 0, by rw [List.lookup_cons]; simp⟩
      · exact .inl e
    · refine .inr ?_
      by_cases hk : (y.2 == NameKind.free) = true
      · rw [if_pos hk, List.lookup_cons]
        by_cases hz : (x == y.1) = true
        · rw [hz]; exact ⟨_, rfl⟩
        · have hz' : (x == y.1) = false := by simpa using hz
          rw [hz']; exact ⟨c, hc⟩
      · rw [if_neg hk]; exact ⟨c, hc⟩
theorem relabel_of {env : Env} : ∀ {names : List (Str × NameKind)} {x : Str} {k : NameKind},
    (names.map fun (y : Str × NameKind) => if (y.2 == NameKind.free && env.scope.kind == .function && env.kindOf y.1 == some .cell) = true then (y.1, NameKind.cell) else (y.1, y.2)).lookup x = some k →
    (names.lookup x = some k) ∨ (names.lookup x = some .free ∧ k = .cell)
  | [], x, k, h => by simp at h
  | y :: r, x, k, h => by
    rw [List.map_cons] at h
    by_cases hx : (x == y.1) = true
    · by_cases hc : (y.2 == NameKind.free && env.scope.kind == .function && env.kindOf y.1 == some .cell) = true
      · rw [if_pos hc, List.lookup_cons, hx] at h
        rw [List.lookup_cons, hx]
        have : y.2 = .free := by simp at hc; exact hc.1.1
        refine .inr ⟨by rw [this], ?_⟩
        cases h; rfl
      · rw [if_neg hc, List.lookup_cons, hx] at h
        rw [List.lookup_cons, hx]
        exact .inl h
    · have hx' : (x == y.1) = false := by simpa using hx
      have h' : (r.map fun (y : Str × NameKind) => if (y.2 == NameKind.free && env.scope.kind == .function && env.kindOf y.1 == some .cell) = true then (y.1, NameKind.cell) else (y.1, y.2)).lookup x = some k := by
        by_cases hc : (y.2 == NameKind.free && env.scope.kind == .function && env.kindOf y.1 == some .cell) = true
        · rw [if_pos hc, List.lookup_cons, hx'] at h; exact h
        · rw [if_neg hc, List.lookup_cons, hx'] at h; exact h
      rw [List.lookup_cons, hx']
      exact relabel_of h'
theorem of_relabel {env : Env} : ∀ {names : List (Str × NameKind)} {x : Str}, names.lookup x = some .free →
    (names.map fun (y : Str × NameKind) => if (y.2 == NameKind.free && env.scope.kind == .function && env.kindOf y.1 == some .cell) = true then (y.1, NameKind.cell) else (y.1, y.2)).lookup x = some .cell ∨
    (names.map fun (y : Str × NameKind) => if (y.2 == NameKind.free && env.scope.kind == .function && env.kindOf y.1 == some .cell) = true then (y.1, NameKind.cell) else (y.1, y.2)).lookup x = some .free
  | [], x, h => by simp at h
  | y :: r, x, h => by
    rw [List.map_cons]
    by_cases hx : (x == y.1) = true
    · rw [List.lookup_cons, hx] at h
      have hy : y.2 = .free := Option.some.inj h
      by_cases hc : (y.2 == NameKind.free && env.scope.kind == .function && env.kindOf y.1 == some .cell) = true
      · rw [if_pos hc, List.lookup_cons, hx]; exact .inl rfl
      · rw [if_neg hc, List.lookup_cons, hx]; exact .inr (by rw [hy])
    · have hx' : (x == y.1) = false := by simpa using hx
      rw [List.lookup_cons, hx'] at h
      have ih := of_relabel (env := env) h
      by_cases hc : (y.2 == NameKind.free && env.scope.kind == .function && env.kindOf y.1 == some .cell) = true
      · rw [if_pos hc, List.lookup_cons, hx']; exact ih
      · rw [if_neg hc, List.lookup_cons, hx']; exact ih
end L2

end

section
set_option Elab.async false
set_option linter.all false
set_option maxRecDepth 100000
set_option maxHeartbeats 4000000
namespace L2
open PySem PySem.Spec PyProof.Rows
def PIfs (X : Cx) (ifs : List Expr) (t : TT) : Prop :=
  ∀ (pins : List (Addr × Obj)) (s : Shared) (σ : St) (H : Hp) (Q : Bool → Hp → Prop), Inv X pins σ H s → t σ H Q →
    wpAny (model X.prog X.w) X.A (forIn ifs true fun c r => if r = true then (do
      let ok ← isTrue c X.env (eval c X.env)
      pure (ForInStep.yield ok)) else pure (ForInStep.yield r)) (TP X pins σ Q) X.xe s
def tYes : TT := fun _ H Q => Q true H
theorem pifs_nil {X : Cx} : PIfs X [] tYes := fun _ _ _ H _ I h => wpAny_tests_nil ⟨H, I, h⟩
theorem pifs_one {X : Cx} {c : Expr} {t : TT} (h : PT X c t) : PIfs X [c] t := fun pins s σ H Q I hq => wpAny_tests_one (h pins s σ H Q I hq)
section
variable {prog : Program} {w : World} {A : Around} {R : Result → Shared → Prop} {s : Shared}
theorem lc_loop {elt target iter : Expr} {ifs : List Expr} {scope : Scope} {pos : Pos} {it acc : Value} {env : Env} (I : Nat → Shared → Prop)
    (turn : ∀ n s, I n s → wpAny (model prog w) A (pyNext it) (fun r s1 => (r = none ∧ R (.ok .next) s1) ∨ ∃ v, r = some v ∧
      wpAny (model prog w) A (letOwnedTupleGo target it v) (fun _ s2 => wpAny (model prog w) A (assign target env v) (fun _ s3 =>
        wpAny (model prog w) A (forIn ifs true fun c r => if r = true then (do
          let ok ← isTrue c env (eval c env)
          pure (ForInStep.yield ok)) else pure (ForInStep.yield r)) (fun ok s4 =>
            (ok = true ∧ wpAny (model prog w) A (eval elt env) (fun x s5 => wpAny (model prog w) A (call (.builtin "list.append") [acc, x]) (fun _ s6 => ∃ m, m < n ∧ I m s6) (fun _ _ => False) s5) (fun _ _ => False) s4) ∨
            (ok = false ∧ ∃ m, m < n ∧ I m s4)) (fun _ _ => False) s3) (fun _ _ => False) s2) (fun _ _ => False) s1) (fun _ _ => False) s)
    (n : Nat) (h : I n s) : codeAny (model prog w) A (.compLoop (.ListComp elt [⟨target, iter, ifs, 0⟩] scope pos) 0 it acc env) R s := by
  refine codeAny_loop rfl I (fun n s hI => ?_) n h
  show wpAny _ A ((compTurn (.ListComp elt [⟨target, iter, ifs, 0⟩] scope pos) 0 it acc env).onRaise fun x => do
    noteFrame x env
    theTreesLotGoes x) _ _ s
  refine wpAny_noted ?_
  rw [compTurn_list]
  refine wpAny_bind (wpAny_standAt (wpAny_bind (wpAny_mono (turn n s hI) (fun r s1 h1 => ?_) fun _ _ f => f.elim)))
  rcases h1 with ⟨rfl, h1⟩ | ⟨v, rfl, h1⟩
  · exact wpAny_pure h1
  · refine wpAny_bind (wpAny_mono h1 (fun _ s2 h2 => ?_) fun _ _ f => f.elim)
    refine wpAny_bind (wpAny_mono h2 (fun _ s3 h3 => ?_) fun _ _ f => f.elim)
    refine wpAny_bind (wpAny_mono h3 (fun ok s4 h4 => ?_) fun _ _ f => f.elim)
    rcases h4 with ⟨rfl, h4⟩ | ⟨rfl, h4⟩
    · refine wpAny_bind (wpAny_bind (wpAny_mono h4 (fun x s5 h5 => ?_) fun _ _ f => f.elim))
      exact wpAny_bind (wpAny_mono h5 (fun _ s6 h6 => wpAny_pure (wpAny_pure ⟨rfl, h6⟩)) fun _ _ f => f.elim)
    · exact wpAny_pure ⟨rfl, h4⟩
end
def lcCx (X : Cx) (N' : List Str) (scope : Scope) (C : Addr) (s2 : Shared) (H2 : Hp) (fp : List Addr) (pn : List (Addr × Obj)) : Cx :=
  { X with N := N', s₀ := s2, H₀ := H2, env := compEnvC scope (closeOf X.env scope.names []) C X.env, outer := X.stack, stack := X.stack, ex := fp, fn := fun _ => false, pn := X.pn ++ pn, xe := fun _ _ => False }
def capS (cap : List (Option Nat)) (σ : St) : St := cap.map fun o => o.bind fun j => (σ[j]?).join
structure LcSc (X : Cx) (N' : List Str) (cap : List (Option Nat)) (scope : Scope) : Prop where
  nocell : ∀ y ∈ scope.names, y.2 ≠ .cell
  kind : scope.kind = .function
  names : ∀ y ∈ scope.names, y.2 = .local → scope.names.lookup y.1 = some .local
  frees : ∀ y ∈ scope.names, y.2 = .free → X.env.kindOf y.1 = some .cell ∨ X.env.kindOf y.1 = some .free
  len : cap.length = N'.length
  cap : ∀ (i j : Nat), cap[i]? = some (some j) → ∃ x, N'[i]? = some x ∧ X.N[j]? = some x ∧ scope.names.lookup x = some .free
section
variable {X : Cx} {N' : List Str} {cap : List (Option Nat)} {scope : Scope} {pins : List (Addr × Obj)} {σ : St} {H : Hp} {s : Shared}
theorem LcSc.cells (S : LcSc X N' cap scope) (ok : X.Ok) : ∀ y ∈ scope.names, y.2 = .free → ∃ c, X.env.cells.lookup y.1 = some c := fun y hy hk => ok.has y.1 (S.frees y hy hk)
theorem LcSc.sub (S : LcSc X N' cap scope) (ok : X.Ok) : ∀ x c, (closeOf X.env scope.names []).lookup x = some c → X.env.cells.lookup x = some c :=
  close_sub scope.names [] (S.cells ok) fun x c e => by simp at e
theorem LcSc.kinds (S : LcSc X N' cap scope) {C : Addr} {cl : List (Str × Addr)} {x : Str} (h : (compEnvC scope cl C X.env).kindOf x = some .cell ∨ (compEnvC scope cl C X.env).kindOf x = some .free) : scope.names.lookup x = some .free := by
  rcases h with h | h
  · rcases relabel_of (names := scope.names) h with q | ⟨q, _⟩
    · exact absurd rfl (S.nocell _ (PySem.mem_of_lookup q))
    · exact q
  · rcases relabel_of (names := scope.names) h with q | ⟨q, _⟩
    · exact q
    · exact q
theorem Inv.stkAll (I : Inv X pins σ H s) {b : Addr} (h1 : b ≠ X.env.locals) (h2 : b ∉ X.fs) : b ∉ frs X.stack := fun hb => (List.mem_cons.mp (I.stkSub b hb)).elim h1 h2
theorem lc_start (S : LcSc X N' cap scope) (I : Inv X pins σ H s) {fp : List Addr} {h4 : Heap} {C : Addr} {tk : Nat} (hf : ∀ b ∈ fp, FpOk X pins H b) (hlt : ∀ b ∈ fp, b < s.heap.objs.size)
    (hC : s.heap.objs.size ≤ C) (hn : h4.Ns C fun _ => none) (hk : ∀ b o, s.heap.get? b = some o → h4.get? b = some o) :
    Inv (lcCx X N' scope C s H fp pins) [] (capS cap σ) H { s with heap := h4, toks := tk } := by
  have cellLt : ∀ x c, X.env.cells.lookup x = some c → c < s.heap.objs.size := fun x c e => by
    obtain ⟨v, q⟩ := I.cell x c e
    exact q.lt
  have fresh : H C = none := I.hok.fresh hC
  have ok : (lcCx X N' scope C s H fp pins).Ok := by
    refine ⟨I.ok.mod, S.kind, I.ok.glob, I.ok.blt, hC, fun x y c h1 h2 => ?_, fun x hx => ?_, fun x c hx _ => ?_, I.ok.hd, I.ok.frames, .inl rfl, fun b hb => ⟨?_, fun x c e => ?_⟩, I.bs, Nat.le_trans I.ok.bsz I.sz, fun b o e hb => ?_, fun b hb => ?_, I.stack, I.stkFree⟩
    · exact I.ok.inj x y c (S.sub I.ok x c h1) (S.sub I.ok y c h2)
    · exact close_has scope.names [] x (.inl (PySem.mem_of_lookup (S.kinds hx)))
    · exact absurd hx (by show ¬ (false = true); decide)
    · exact Nat.ne_of_lt (Nat.lt_of_lt_of_le (hlt b hb) hC)
    · exact (hf b hb).2.2.2.2.1 x c (S.sub I.ok x c e)
    · rcases (hf b hb).2.2.2.1 with z | z
      · exact I.ok.noex b o e z
      · exact absurd (Nat.lt_of_lt_of_le (Heap.lt_size (I.ok.bs b o e).1) z) (Nat.lt_irrefl _)
    · exact I.stkAll (hf b hb).2.1 (hf b hb).2.2.1
  refine ⟨ok, rfl, I.bare, Un.kept hk, ⟨_, hn, fun i x v h1 h2 h3 => ?_⟩, fun x c e => ?_, fresh, fun x c e => I.freeC x c (S.sub I.ok x c e), fun p hp => ?_, I.hok.kept hk, ?_⟩
  · -- a name that is caught
    have h2' : (cap[i]?).map (fun o => o.bind fun j => (σ[j]?).join) = some (some v) := by
      have : (capS cap σ)[i]? = some (some v) := h2
      unfold capS at this
      rw [List.getElem?_map] at this
      exact this
    cases e : cap[i]? with
    | none => rw [e] at h2'; simp at h2'
    | some o =>
      cases o with
      | none => rw [e] at h2'; simp at h2'
      | some j =>
        rw [e] at h2'
        obtain ⟨x', a1, a2, a3⟩ := S.cap i j e
        have ex : x' = x := by
          have : N'[i]? = some x := h1
          rw [a1] at this
          exact Option.some.inj this
        subst ex
        have sv : σ[j]? = some (some v) := by
          have q : (σ[j]?).join = some v := Option.some.inj h2'
          cases f : σ[j]? with
          | none => rw [f] at q; simp at q
          | some o => rw [f] at q; cases o with
            | none => simp at q
            | some v' => simp at q; rw [q]
        have hv : X.env.kindOf x' = some .cell ∨ X.env.kindOf x' = some .free := S.frees _ (PySem.mem_of_lookup a3) rfl
        obtain ⟨m, hm, hl⟩ := I.loc
        obtain ⟨u, r, l⟩ := hl j x' v a2 sv (hv.elim (fun z => .inr (.inl z)) fun z => .inr (.inr z))
        refine ⟨u, r, .inr ⟨?_, ?_⟩⟩
        · exact of_relabel (env := X.env) (names := scope.names) a3
        · rcases l with ⟨hk', _⟩ | ⟨_, c, hc, o, ho, hd⟩
          · rcases hv with z | z <;> rw [z] at hk' <;> cases hk'
          · obtain ⟨c', hc'⟩ := close_has (env := X.env) scope.names [] x' (.inl (PySem.mem_of_lookup a3))
            have := S.sub I.ok x' c' hc'
            rw [hc] at this
            cases this
            exact ⟨c, hc', o, hk c o ho, hd⟩
  · obtain ⟨v, o, ho, hd⟩ := I.cell x c (S.sub I.ok x c e)
    exact ⟨v, o, hk c o ho, hd⟩
  · have hp' : p ∈ X.pn ++ pins := by
      rcases List.mem_append.mp hp with z | z
      · exact z
      · exact absurd z (by simp)
    obtain ⟨e, n, ne, nf, d⟩ := I.pin p hp'
    exact ⟨hk _ _ e, n, Nat.ne_of_lt (Nat.lt_of_lt_of_le (Heap.lt_size e) hC), I.stkAll ne nf, d⟩
  · show (capS cap σ).length = N'.length
    unfold capS
    rw [List.length_map]
    exact S.len
end
def tLc (cap : List (Option Nat)) (wi : TI) (g : TG) (tc : TT) (te : TE) : TE := fun σ H Q => wi σ H fun J H1 => ∃ W : Nat → Nat → List V → St → Hp → Prop, (∃ m, W 0 m [] (capS cap σ) H1) ∧ ∀ i m acc σ' H', W i m acc σ' H' →
  (J.stop i H' ∧ ∀ p, H' p = none → Q (.ref p) (upd H' p (.lst acc))) ∨
  (J.go i H' ∧ acc.length < sizeLine ∧ ∃ N : List V → St → Hp → Prop, (∀ acc' σ2 H2, N acc' σ2 H2 → ∃ m', m' < m ∧ W (i + 1) m' acc' σ2 H2) ∧ ∀ x H2, J.yld i H' x H2 → g x σ' H2 fun σ2 H3 => tc σ2 H3 fun b H4 => (b = true ∧ te σ2 H4 fun v H5 => N (acc ++ [v]) σ2 H5) ∨ (b = false ∧ N acc σ2 H4))
section
variable {X : Cx} {N' : List Str} {cap : List (Option Nat)} {scope : Scope}
theorem lc_run {elt tg iter : Expr} {ifs : List Expr} {pos : Pos} {wi : TI} {g : TG} {tc : TT} {te : TE} (hc : X.calm = true) (S : LcSc X N' cap scope) (hi : PI X tg iter wi)
    (hg : ∀ C s H fp pn, PG (lcCx X N' scope C s H fp pn) tg g) (hif : ∀ C s H fp pn, PIfs (lcCx X N' scope C s H fp pn) ifs tc) (he : ∀ C s H fp pn, PE (lcCx X N' scope C s H fp pn) elt te)
    (hs : ∀ x, foldedSetIterable iter X.env x = pure x) {pins : List (Addr × Obj)} {s : Shared} {σ : St} {H : Hp} {Q : VK} (I : Inv X pins σ H s) (h : tLc cap wi g tc te σ H Q)
    {use : Option (Value → Sem Unit)} {QQ : Value → Shared → Prop}
    (post : ∀ (D C : Addr) (H' : Hp) (acc : List V) (s' : Shared), D ≠ C → (∃ m, s'.heap.Ns C m) → (∀ h', Heap.SameBut C s'.heap h' → Inv X pins σ (upd H' D (.lst acc)) { s' with heap := h' }) → FpOk X pins (upd H' D (.lst acc)) C → Q (.ref D) (upd H' D (.lst acc)) → compPost (model X.prog X.w) X.A X.xe use QQ (.ref D) C (.ok .next) s') :
    wpAny (model X.prog X.w) X.A (comprehension (.ListComp elt [⟨tg, iter, ifs, 0⟩] scope pos) scope X.env (firstIterPos [⟨tg, iter, ifs, 0⟩] pos) (newList []) false (firstIter [⟨tg, iter, ifs, 0⟩] X.env) use) QQ X.xe s := by
  refine wpAny_comprehension_free (e := .ListComp elt [⟨tg, iter, ifs, 0⟩] scope pos) (g := ⟨tg, iter, ifs, 0⟩) (gs := []) rfl hs (closure_eq (S.cells I.ok)) S.kind S.names ?_
  refine thn (hi pins s σ H _ I h) fun v s1 h1 => thn h1 fun itv s2 h2 => ?_
  obtain ⟨it, fp, tn, J, H2, e, I2, T, st2, f2, W, ⟨m0, w0⟩, turn⟩ := h2
  subst e
  have fplt : ∀ b ∈ fp, b < s2.heap.objs.size := fun b hb => by
    obtain ⟨o, e, _⟩ := T.obj _ _ st2 b hb
    exact Heap.lt_size e
  refine wpAny_newObj_type (wpAny_newFunctionEnv S.nocell (fun y hy => by simp at hy) (fun h1' hns hsb => ?_) S.kind)
  dsimp only at hns hsb ⊢
  generalize hP : s2.heap.push { cls := .type "list", dict := none, data := .seq ([] : List Value).toArray } = P2 at hns hsb ⊢
  have hsz : P2.objs.size = s2.heap.objs.size + 1 := by rw [← hP, Heap.size_push]
  have hDC : s2.heap.objs.size ≠ P2.objs.size := by rw [hsz]; exact Nat.ne_of_lt (Nat.lt_succ_self _)
  have hC : s2.heap.objs.size ≤ P2.objs.size := by rw [hsz]; exact Nat.le_succ _
  have keepP : ∀ b o, P2.get? b = some o → b ≠ P2.objs.size → h1'.get? b = some o := fun b o e hb => hsb.extBut b o hb (Heap.get?_push_of_some _ e)
  have old : ∀ b o, s2.heap.get? b = some o → h1'.get? b = some o := fun b o e => keepP b o (by rw [← hP]; exact Heap.get?_push_of_some _ e) (Nat.ne_of_lt (Nat.lt_of_lt_of_le (Heap.lt_size e) hC))
  have hD0 : h1'.get? s2.heap.objs.size = some { cls := .type "list", data := .seq #[] 0 } := keepP _ _ (by rw [← hP]; exact Heap.get?_push_size _ rfl) hDC
  have I4 : Inv (lcCx X N' scope P2.objs.size s2 H2 fp pins) [] (capS cap σ) H2 { s2 with heap := h1', toks := s2.toks + ([] : List (Str × Value)).length } :=
    lc_start S I2 f2 fplt hC (by simpa using hns) old
  have loop : ∀ s4 : Shared, s4 = { s2 with heap := h1', toks := s2.toks + ([] : List (Str × Value)).length } →
      codeAny (model X.prog X.w) X.A (.compLoop (.ListComp elt [⟨tg, iter, ifs, 0⟩] scope pos) 0 (.ref it) (.ref s2.heap.objs.size) (compEnvC scope (closeOf X.env scope.names []) P2.objs.size X.env)) (compPost (model X.prog X.w) X.A X.xe use QQ (.ref s2.heap.objs.size) P2.objs.size) s4 := by
    rintro s4 rfl
    have hfrD : s2.heap.objs.size ∉ frs X.stack := fun hb => by
      obtain ⟨_, o, ho, _⟩ := I2.stack.mem hb
      exact absurd (Heap.lt_size ho) (Nat.lt_irrefl _)
    have cne : ∀ x c, (closeOf X.env scope.names []).lookup x = some c → c < s2.heap.objs.size := fun x c e => by
      obtain ⟨v, q⟩ := I2.cell x c (S.sub I2.ok x c e)
      exact q.lt
    have stat : ∀ {Hx : Hp} {ob : Obj}, (∀ b ∈ fp, Hx b = none) → ∀ b ∈ fp, FpOk (lcCx X N' scope P2.objs.size s2 H2 fp pins) [(s2.heap.objs.size, ob)] Hx b := fun {Hx ob} hn b hb => by
      refine ⟨hn b hb, Nat.ne_of_lt (Nat.lt_of_lt_of_le (fplt b hb) hC), I2.stkAll (f2 b hb).2.1 (f2 b hb).2.2.1, .inl hb, fun x c e => (f2 b hb).2.2.2.2.1 x c (S.sub I2.ok x c e), fun p hp => ?_⟩
      rcases List.mem_append.mp hp with z | z
      · exact (f2 b hb).2.2.2.2.2 p z
      · rw [List.mem_singleton.mp z]
        exact Nat.ne_of_gt (fplt b hb)
    refine lc_loop (fun n s' => ∃ (i : Nat) (σ' : St) (H' : Hp) (acc : List V) (its : List Value) (nn : Nat), Inv (lcCx X N' scope P2.objs.size s2 H2 fp pins) [] σ' H' s' ∧ tn i s'.heap ∧ (∀ b ∈ fp, H' b = none) ∧ H' s2.heap.objs.size = none ∧
      s'.heap.get? s2.heap.objs.size = some { cls := .type "list", data := .seq its.toArray nn } ∧ Vals acc its ∧ acc.length ≤ sizeLine ∧ W i n acc σ' H') ?_ m0
      ⟨0, capS cap σ, H2, [], [], 0, I4, T.keep _ _ _ st2 fun b _ o e => old b o e, fun b hb => (f2 b hb).1, I2.hok.fresh (Nat.le_refl _), hD0, .nil, Nat.zero_le _, w0⟩
    rintro n s5 ⟨i, σ', H', acc, its, nn, I5, t5, fr5, d5, g5, va, la, w5⟩
    have I5p : Inv (lcCx X N' scope P2.objs.size s2 H2 fp pins) [(s2.heap.objs.size, { cls := .type "list", data := .seq its.toArray nn })] σ' H' s5 := I5.pins_of fun p hp => by
      rw [List.mem_singleton.mp hp]
      exact ⟨g5, d5, hDC, hfrD, fun v z => by cases z⟩
    rcases turn i n acc σ' H' w5 with ⟨stop, q⟩ | ⟨go, lt, N, hN, step⟩
    · refine thn (T.done (lcCx X N' scope P2.objs.size s2 H2 fp pins) rfl rfl rfl hc i _ s5 σ' H' _ I5p (stat fr5) t5 stop) fun r s6 ⟨hr, I6⟩ => .inl ⟨hr, ?_⟩
      have d6 := (I6.pin (s2.heap.objs.size, { cls := .type "list", data := .seq its.toArray nn }) (by simp)).1
      have nC : H' P2.objs.size = none := I6.free
      refine post _ _ H' acc s6 hDC (let ⟨m, hn, _⟩ := I6.loc; ⟨m, hn⟩) (fun h' hs' => ?_) (I2.fpOk hC (by rw [upd_ne hDC.symm]; exact nC)) (q _ d5)
      have up : ∀ b o, b ≠ P2.objs.size → s6.heap.get? b = some o → h'.get? b = some o := fun b o hb e => hs'.extBut b o hb e
      have ltC : ∀ b o, s2.heap.get? b = some o → b ≠ P2.objs.size ∧ b ≠ s2.heap.objs.size := fun b o e => ⟨Nat.ne_of_lt (Nat.lt_of_lt_of_le (Heap.lt_size e) hC), Nat.ne_of_lt (Heap.lt_size e)⟩
      have u6 : Un (frs X.stack) fp H2 H' s2.heap s6.heap := I6.base
      have u7 : Un (frs X.stack) fp H2 (upd H' s2.heap.objs.size (.lst acc)) s2.heap h' := by
        refine ⟨fun b o e n hb hx => up b o (ltC b o e).1 (u6.keep b o e n hb hx), fun b o e n hb hx => ?_, fun b o e n hx => ?_, fun b o e hx => ?_, fun b xs e => ?_, fun b o u e => ?_, fun b ps e => ?_⟩
        · obtain ⟨sl, q⟩ := u6.slot b o e n hb hx
          exact ⟨sl, up b _ (ltC b o e).1 q⟩
        · rw [upd_ne (ltC b o e).2]
          exact u6.free b o e n hx
        · obtain ⟨o', q⟩ := u6.there b o e hx
          exact ⟨o', up b o' (ltC b o e).1 q⟩
        · have z := u6.tups b xs e
          rw [upd_ne (ne_of_none z d5)]
          exact z
        · have z := u6.frzs b o u e
          rw [upd_ne (ne_of_none z d5)]
          exact z
        · obtain ⟨more, z⟩ := u6.tbls b ps e
          exact ⟨more, by rw [upd_ne (ne_of_none z d5)]; exact z⟩
      have ok7 : HOk X.prog X.w (upd H' s2.heap.objs.size (.lst acc)) h' := fun b u e => by
        by_cases hb : b = s2.heap.objs.size
        · subst hb
          rw [upd_same] at e
          cases e
          exact ⟨la, its, nn, va, up _ _ hDC d6⟩
        · rw [upd_ne hb] at e
          refine (I6.hok b u e).stay (fun c v hc' z => up c v ?_ z) (fun c z => by rw [upd_ne (ne_of_none z d5)]; exact z) fun c xs z => by rw [upd_ne (ne_of_none z d5)]; exact z
          rcases hc' with rfl | z
          · exact ne_of_none e nC
          · exact ne_of_none z nC
      have os6 : s6.os = s2.os := I6.os
      have ba6 := I6.bare
      obtain ⟨hh, gg, dd, tt, oo⟩ := s6
      subst os6
      have z7 := I2.call (s := s2) (h' := h') (g' := gg) (d' := dd) (t' := tt) (ch := fp) u7 ok7 ba6 fun b hb => ⟨(f2 b hb).2.2.2.1, (f2 b hb).2.1, (f2 b hb).2.2.2.2.1, (f2 b hb).2.2.2.2.2⟩
      exact z7
    · refine thn (T.item (lcCx X N' scope P2.objs.size s2 H2 fp pins) rfl rfl rfl hc i _ s5 σ' H' _ I5p (stat fr5) t5 go) fun r s6 ⟨u, hr, h6⟩ => .inr ⟨u, hr, ?_⟩
      refine thn h6 fun _ s7 ⟨x, H7, I7, r7, y7, t7, fr7⟩ => ?_
      have I7' := I7.pinned (stat fr7) (T.obj _ _ t7)
      have back : ∀ {σx : St} {Hx : Hp} {sx : Shared}, Inv (lcCx X N' scope P2.objs.size s2 H2 fp pins) ([(s2.heap.objs.size, { cls := .type "list", data := .seq its.toArray nn })] ++ pinsAt fp s7.heap) σx Hx sx →
          (∀ b ∈ fp, ∀ o, s7.heap.get? b = some o → sx.heap.get? b = some o) ∧ (∀ b ∈ fp, Hx b = none) ∧ sx.heap.get? s2.heap.objs.size = some { cls := .type "list", data := .seq its.toArray nn } ∧ Hx s2.heap.objs.size = none := fun {σx Hx sx} Ix => by
        refine ⟨fun b hb o e => (Ix.pin (b, o) (List.mem_append_right _ (List.mem_append_right _ (mem_pinsAt hb e)))).1, fun b hb => ?_, ?_, ?_⟩
        · obtain ⟨o, e, _⟩ := T.obj _ _ t7 b hb
          exact (Ix.pin (b, o) (List.mem_append_right _ (List.mem_append_right _ (mem_pinsAt hb e)))).2.1
        · exact (Ix.pin (s2.heap.objs.size, _) (List.mem_append_right _ (List.mem_append_left _ (List.mem_singleton.mpr rfl)))).1
        · exact (Ix.pin (s2.heap.objs.size, { cls := .type "list", data := .seq its.toArray nn }) (List.mem_append_right _ (List.mem_append_left _ (List.mem_singleton.mpr rfl)))).2.1
      refine thn (hg _ _ _ _ _ _ s7 σ' H7 x u _ I7' r7 (step x H7 y7)) fun _ s8 ⟨σ8, H8, I8, q8⟩ => ?_
      refine thn (hif _ _ _ _ _ _ s8 σ8 H8 _ I8 q8) fun b s9 ⟨H9, I9, q9⟩ => ?_
      rcases q9 with ⟨rfl, q9⟩ | ⟨rfl, n9⟩
      · refine .inl ⟨rfl, thn (he _ _ _ _ _ _ s9 σ8 H9 _ I9 q9) fun uv s10 ⟨v, H10, I10, rv, n10⟩ => ?_⟩
        obtain ⟨m', hm, w10⟩ := hN _ _ _ n10
        obtain ⟨b1, b2, b3, b4⟩ := back I10
        refine wpAny_list_append_plain ⟨nn, b3⟩ (fun h' hp hs' => ?_) (by rw [List.size_toArray, ← va.length]; exact la)
        obtain ⟨n2, e2⟩ := hp
        have up : ∀ b o, b ≠ s2.heap.objs.size → s10.heap.get? b = some o → h'.get? b = some o := fun b o hb e => hs'.extBut b o hb e
        have I10' : Inv (lcCx X N' scope P2.objs.size s2 H2 fp pins) [] σ8 H10 s10 := I10.pins_of fun p hp => absurd hp (by simp)
        refine ⟨m', hm, i + 1, σ8, H10, acc ++ [v], its ++ [uv], n2, I10'.turned (t' := s10.toks) up b4 hDC (.inr (Nat.le_refl _)) (fun x c e => Nat.ne_of_lt (cne x c e)) (fun p hp => ?_), T.keep _ _ _ t7 fun b hb o e => up b o (Nat.ne_of_lt (fplt b hb)) (b1 b hb o e), b2, b4, ?_, va.append (.cons rv .nil), ?_, w10⟩
        · have hp' : p ∈ X.pn ++ pins := by
            rcases List.mem_append.mp hp with z | z
            · exact z
            · exact absurd z (by simp)
          exact Nat.ne_of_lt (Heap.lt_size (I2.pin p hp').1)
        · rw [e2]
          simp
        · rw [List.length_append, List.length_singleton]
          exact lt
      · obtain ⟨m', hm, w9⟩ := hN _ _ _ n9
        obtain ⟨b1, b2, b3, b4⟩ := back I9
        exact .inr ⟨rfl, m', hm, i + 1, σ8, H9, acc, its, nn, I9.pins_of fun p hp => absurd hp (by simp), T.keep _ _ _ t7 b1, b2, b4, b3, va, la, w9⟩
  exact codeAny_compStart_list (loop _ rfl) (T.self _ 0 _ _ _ (T.keep _ _ _ st2 fun b _ o e => old b o e) (loop _ rfl))
theorem pe_lc {elt tg iter : Expr} {ifs : List Expr} {pos : Pos} {wi : TI} {g : TG} {tc : TT} {te : TE} (hc : X.calm = true) (S : LcSc X N' cap scope) (hi : PI X tg iter wi)
    (hg : ∀ C s H fp pn, PG (lcCx X N' scope C s H fp pn) tg g) (hif : ∀ C s H fp pn, PIfs (lcCx X N' scope C s H fp pn) ifs tc) (he : ∀ C s H fp pn, PE (lcCx X N' scope C s H fp pn) elt te)
    (hs : ∀ x, foldedSetIterable iter X.env x = pure x := by intro _; rfl) : PE X (.ListComp elt [⟨tg, iter, ifs, 0⟩] scope pos) (tLc cap wi g tc te) := by
  intro pins s σ H Q I h
  rw [eval_ListComp]
  refine lc_run (use := none) (Q := Q) hc S hi hg hif he hs I h fun D C H' acc s' hDC ⟨m, hn⟩ hI _ hq => ⟨m, hn, fun h' hs' => ?_⟩
  exact ⟨.ref D, _, hI h' hs', rfl, hq⟩
theorem ps_setLc {i : Nat} {x : Str} {elt tg iter : Expr} {ifs : List Expr} {pos pos' pos'' : Pos} {wi : TI} {g : TG} {tc : TT} {te : TE} (hN : X.N.Nodup) (hix : X.N[i]? = some x) (hc : X.calm = true) (S : LcSc X N' cap scope) (hi : PI X tg iter wi)
    (hg : ∀ C s H fp pn, PG (lcCx X N' scope C s H fp pn) tg g) (hif : ∀ C s H fp pn, PIfs (lcCx X N' scope C s H fp pn) ifs tc) (he : ∀ C s H fp pn, PE (lcCx X N' scope C s H fp pn) elt te)
    (hsw : swapsWith (.ListComp elt [⟨tg, iter, ifs, 0⟩] scope pos) (some (.Name x pos')) pos''.line X.env = pure true := by rfl) (hx : X.env.scope.names.lookup x = some .local := by rfl)
    (hs : ∀ x, foldedSetIterable iter X.env x = pure x := by intro _; rfl) : PS X (.Assign [.Name x pos'] (.ListComp elt [⟨tg, iter, ifs, 0⟩] scope pos) pos'') (tAsg (tLc cap wi g tc te) (gName i)) := by
  intro pins s σ H D I h
  rw [exec_Assign_Name_used _ _ _ _ hsw]
  refine wpAny_bind (wpAny_standAt (wpAny_bind ?_))
  show wpAny _ _ (comprehension (.ListComp elt [⟨tg, iter, ifs, 0⟩] scope pos) scope X.env _ (newList []) false (firstIter [⟨tg, iter, ifs, 0⟩] X.env) (some (assign (.Name x pos') X.env)) >>= fun _ => pure ()) _ _ s
  refine wpAny_bind (thn (lc_run (use := some (assign (.Name x pos') X.env)) (QQ := fun _ s' => ∃ σ' H', Inv X pins σ' H' s' ∧ D.nx σ' H') (Q := fun v H1 => gName i v σ H1 D.nx) hc S hi hg hif he hs I h fun E C H' acc s' hDC ⟨m, hn⟩ hI fC hq => ?_) fun _ s' hz => wpAny_pure (wpAny_pure hz))
  have I1 : Inv X pins σ (upd H' E (.lst acc)) s' := hI s'.heap (Heap.SameBut.refl ..)
  have I1 : Inv X pins σ (upd H' E (.lst acc)) s' := I1
  refine wpAny_assign_Name (store_ok2 (M := model X.prog X.w) (A := X.A) (E := X.xe) I1 hN hix (.inl hx) (v := .ref E) (u := .ref E) rfl (fun s2 I2 hsb => ?_) (.inr hx))
  obtain ⟨a, hs2, ha⟩ := hsb
  have hne : C ≠ a := by
    rcases ha with z | z
    · rw [z]; exact fC.2.1
    · exact fun w => fC.2.2.2.2.1 x a z w.symm
  refine ⟨m, hn.extBut hs2.extBut hne, fun h' hs' => ?_⟩
  exact ⟨_, _, I2.turned (t' := s2.toks) (fun b o hb e => hs'.extBut b o hb e) fC.1 fC.2.1 fC.2.2.2.1 fC.2.2.2.2.1 fC.2.2.2.2.2, hq⟩
end
end L2

end

section
set_option Elab.async false
set_option linter.all false
set_option maxRecDepth 100000
set_option maxHeartbeats 4000000
namespace L2
open PySem PySem.Spec PyProof.Rows
def keyD : Key → PyData
  | .inl i => .int i
  | .inr x => .str x
mutual
def Rep (K : PySem.W.Frag) (H : Hp) : PyData → V → Prop
  | .none, v => v = .non
  | .bool b, v => v = .bl b
  | .int i, v => v = .int i
  | .str x, v => v = .str x
  | .list xs, v => ∃ a vs, v = .ref a ∧ SqL K H a vs ∧ RepAll K H xs vs
  | .tuple xs, v => ∃ a vs, v = .ref a ∧ SqT K H a vs ∧ RepAll K H xs vs
  | .dict kvs, v => ∃ a ks, v = .ref a ∧ H a = some (.dK ks) ∧ RepKV K H kvs ks
def RepAll (K : PySem.W.Frag) (H : Hp) : List PyData → List V → Prop
  | [], vs => vs = []
  | d :: ds, vs => ∃ v r, vs = v :: r ∧ Rep K H d v ∧ RepAll K H ds r
def RepKV (K : PySem.W.Frag) (H : Hp) : List (PyData × PyData) → List (Key × V) → Prop
  | [], ks => ks = []
  | (k, d) :: kvs, ks => ∃ k' v r, ks = (k', v) :: r ∧ k = keyD k' ∧ Rep K H d v ∧ RepKV K H kvs r
end
theorem Same.seqT {K : PySem.W.Frag} {H H' : Hp} {a : Addr} {xs : List V} (e : Same H H') (h : SqT K H a xs) : SqT K H' a xs := by
  rcases h with h | h
  · refine .inl ?_
    rcases h with h | ⟨o, h⟩
    · exact .inl (e _ _ h)
    · exact .inr ⟨o, e _ _ h⟩
  · exact .inr h
mutual
theorem Rep.same {K : PySem.W.Frag} {H H' : Hp} (e : Same H H') : ∀ (d : PyData) (v : V), Rep K H d v → Rep K H' d v
  | .none, v, h => h
  | .bool b, v, h => h
  | .int i, v, h => h
  | .str x, v, h => h
  | .list xs, v, h => by
    obtain ⟨a, vs, h1, h2, h3⟩ := h
    exact ⟨a, vs, h1, e.seq h2, RepAll.same e xs vs h3⟩
  | .tuple xs, v, h => by
    obtain ⟨a, vs, h1, h2, h3⟩ := h
    exact ⟨a, vs, h1, e.seqT h2, RepAll.same e xs vs h3⟩
  | .dict kvs, v, h => by
    obtain ⟨a, ks, h1, h2, h3⟩ := h
    exact ⟨a, ks, h1, e _ _ h2, RepKV.same e kvs ks h3⟩
theorem RepAll.same {K : PySem.W.Frag} {H H' : Hp} (e : Same H H') : ∀ (ds : List PyData) (vs : List V), RepAll K H ds vs → RepAll K H' ds vs
  | [], vs, h => h
  | d :: ds, vs, h => by
    obtain ⟨v, r, h1, h2, h3⟩ := h
    exact ⟨v, r, h1, Rep.same e d v h2, RepAll.same e ds r h3⟩
theorem RepKV.same {K : PySem.W.Frag} {H H' : Hp} (e : Same H H') : ∀ (kvs : List (PyData × PyData)) (ks : List (Key × V)), RepKV K H kvs ks → RepKV K H' kvs ks
  | [], ks, h => h
  | (k, d) :: kvs, ks, h => by
    obtain ⟨k', v, r, h1, h2, h3, h4⟩ := h
    exact ⟨k', v, r, h1, h2, Rep.same e d v h3, RepKV.same e kvs r h4⟩
end
theorem RepAll.length {K : PySem.W.Frag} {H : Hp} : ∀ {ds : List PyData} {vs : List V}, RepAll K H ds vs → ds.length = vs.length
  | [], vs, h => by rw [show vs = [] from h]; rfl
  | d :: ds, vs, h => by
    obtain ⟨v, r, h1, _, h3⟩ := h
    rw [h1, List.length_cons, List.length_cons, RepAll.length h3]
theorem RepAll.get {K : PySem.W.Frag} {H : Hp} : ∀ {ds : List PyData} {vs : List V} {i : Nat} {v : V}, RepAll K H ds vs → vs[i]? = some v → ∃ d, ds[i]? = some d ∧ Rep K H d v
  | [], vs, i, v, h, e => by rw [show vs = [] from h] at e; simp at e
  | d :: ds, vs, 0, v, h, e => by
    obtain ⟨w, r, h1, h2, h3⟩ := h
    rw [h1] at e
    simp at e
    subst e
    exact ⟨d, rfl, h2⟩
  | d :: ds, vs, i + 1, v, h, e => by
    obtain ⟨w, r, h1, h2, h3⟩ := h
    rw [h1] at e
    exact RepAll.get (i := i) h3 (by simpa using e)
theorem RepAll.app {K : PySem.W.Frag} {H : Hp} : ∀ {ds es : List PyData} {vs ws : List V}, RepAll K H ds vs → RepAll K H es ws → RepAll K H (ds ++ es) (vs ++ ws)
  | [], es, vs, ws, h, k => by rw [show vs = [] from h]; exact k
  | d :: ds, es, vs, ws, h, k => by
    obtain ⟨v, r, h1, h2, h3⟩ := h
    exact ⟨v, r ++ ws, by rw [h1]; rfl, h2, RepAll.app h3 k⟩
section
variable {X : Cx} {pins : List (Addr × Obj)} {σ : St} {H : Hp} {s : Shared}
theorem Inv.sysN (I : Inv X pins σ H s) : H sysModules = none := by
  obtain ⟨o, es, ep, h, _⟩ := I.mod.sysm
  exact (I.bs _ _ h).2
theorem Inv.sysL (I : Inv X pins σ H s) {a : Addr} {xs : List V} (h : SqL X.K H a xs) : sysModules ≠ a := by
  intro e
  subst e
  have hn := I.sysN
  rcases h with (h | ⟨o, h⟩) | ⟨o, its, n, hk, _, _, hd, _⟩
  · rw [hn] at h; cases h
  · rw [hn] at h; cases h
  · obtain ⟨o', es, ep, h', hd'⟩ := I.mod.sysm
    have := I.mod.kin _ _ hk
    rw [h'] at this
    cases this
    rw [hd] at hd'
    cases hd'
mutual
theorem Rep.reads' (I : Inv X pins σ H s) : ∀ (d : PyData) (v : V) (u : Value), Rep X.K H d v → RelV v u → ∃ as, Reads s.heap u d as ∧ sysModules ∉ as
  | .none, v, u, r, q => by
    rw [show v = .non from r] at q
    rw [show u = Value.none from q]
    exact ⟨_, .none, by simp⟩
  | .bool b, v, u, r, q => by
    rw [show v = .bl b from r] at q
    rw [show u = Value.bool b from q]
    exact ⟨_, .bool b, by simp⟩
  | .int i, v, u, r, q => by
    rw [show v = .int i from r] at q
    obtain ⟨t, rfl⟩ := (show ∃ t, u = Value.int i t from q)
    exact ⟨_, .int i t, by simp⟩
  | .str x, v, u, r, q => by
    rw [show v = .str x from r] at q
    obtain ⟨t, rfl⟩ := (show ∃ t, u = Value.str x t from q)
    exact ⟨_, .str x t, by simp⟩
  | .list xs, v, u, r, q => by
    obtain ⟨a, vs, rfl, h2, h3⟩ := r
    rw [show u = Value.ref a from q]
    obtain ⟨its, hv, ⟨o, n, hg, hc, _, hd⟩, _⟩ := I.list h2
    obtain ⟨as, ha, hs⟩ := RepAll.reads' I xs vs its h3 hv
    exact ⟨_, .list hg hc hd (by simpa using ha), fun z => (List.mem_cons.mp z).elim (I.sysL h2) hs⟩
  | .tuple xs, v, u, r, q => by
    obtain ⟨a, vs, rfl, h2, h3⟩ := r
    rw [show u = Value.ref a from q]
    obtain ⟨its, hv, ⟨o, hg, hc, n, hd⟩, _⟩ := I.tuple h2
    obtain ⟨as, ha, hs⟩ := RepAll.reads' I xs vs its h3 hv
    exact ⟨_, .tuple hg hc hd (by simpa using ha), hs⟩
  | .dict kvs, v, u, r, q => by
    obtain ⟨a, ks, rfl, h2, h3⟩ := r
    rw [show u = Value.ref a from q]
    obtain ⟨_, hS, vs, hkv, o, es, ep, hg, hex, hd, _, hp, _⟩ := (show ObjOk X.prog X.w H s.heap a (.dK ks) from I.hok a _ h2)
    obtain ⟨as, bs, h4, h5, n1, n2⟩ := RepKV.reads' I kvs ks vs es.toList h3 hkv hp
    refine ⟨_, .dict hg hex.1 hd h4 h5, fun z => ?_⟩
    rcases List.mem_append.mp z with z | z
    · rcases List.mem_cons.mp z with z | z
      · rw [z] at hS; simp at hS
      · exact n1 z
    · exact n2 z
theorem RepAll.reads' (I : Inv X pins σ H s) : ∀ (ds : List PyData) (vs : List V) (us : List Value), RepAll X.K H ds vs → Vals vs us → ∃ as, ReadsAll s.heap us ds as ∧ sysModules ∉ as
  | [], vs, us, r, q => by
    rw [show vs = [] from r] at q
    cases q
    exact ⟨_, .nil, by simp⟩
  | d :: ds, vs, us, r, q => by
    obtain ⟨v, t, rfl, h2, h3⟩ := r
    cases q with
    | cons q1 q2 =>
      obtain ⟨as, ha, n1⟩ := Rep.reads' I d v _ h2 q1
      obtain ⟨bs, hb, n2⟩ := RepAll.reads' I ds t _ h3 q2
      exact ⟨_, .cons ha hb, fun z => (List.mem_append.mp z).elim n1 n2⟩
theorem RepKV.reads' (I : Inv X pins σ H s) : ∀ (kvs : List (PyData × PyData)) (ks : List (Key × V)) (vs : List (Key × Value)) (es : List DictEntry), RepKV X.K H kvs ks → KV ks vs → Pairs (mixKind X.prog X.w) es vs →
    ∃ as bs, ReadsAll s.heap (es.map (·.key)) (kvs.map (·.1)) as ∧ ReadsAll s.heap (es.map (·.val)) (kvs.map (·.2)) bs ∧ sysModules ∉ as ∧ sysModules ∉ bs
  | [], ks, vs, es, r, q, p => by
    rw [show ks = [] from r] at q
    cases q
    cases p
    exact ⟨_, _, .nil, .nil, by simp, by simp⟩
  | (k, d) :: kvs, ks, vs, es, r, q, p => by
    obtain ⟨k', v, t, rfl, h1, h2, h3⟩ := r
    cases q with
    | @cons _ kv _ vs' q1 q2 =>
      cases p with
      | @cons e _ es' _ p1 p2 p3 =>
        obtain ⟨as, bs, ha, hb, n1, n2⟩ := RepKV.reads' I kvs t _ _ h3 q2 p3
        obtain ⟨cs, hc, n3⟩ := Rep.reads' I d v _ h2 q1.2
        have hkey : Reads s.heap e.key k [] := by
          rw [h1]
          have p1' : keyIs kv.1 e.key = true := p1
          rw [← show k' = kv.1 from q1.1] at p1'
          rcases keyIs_shape p1' with ⟨i, t', rfl, he⟩ | ⟨x, t', rfl, he⟩
          · rw [he]; exact .int i t'
          · rw [he]; exact .str x t'
        refine ⟨_, _, .cons hkey ha, .cons (show Reads s.heap e.val d cs by rw [p2]; exact hc) hb, by simpa using n1, fun z => (List.mem_append.mp z).elim n3 n2⟩
end
theorem Rep.reads (I : Inv X pins σ H s) (d : PyData) (v : V) (u : Value) (r : Rep X.K H d v) (q : RelV v u) : ∃ as, Reads s.heap u d as := let ⟨as, h, _⟩ := Rep.reads' I d v u r q; ⟨as, h⟩
theorem RepAll.reads (I : Inv X pins σ H s) (ds : List PyData) (vs : List V) (us : List Value) (r : RepAll X.K H ds vs) (q : Vals vs us) : ∃ as, ReadsAll s.heap us ds as := let ⟨as, h, _⟩ := RepAll.reads' I ds vs us r q; ⟨as, h⟩
end
section
variable {X : Cx}
def rEqD (K : PySem.W.Frag) (neg : Bool) : R2 := fun x y H Q => ∃ dx dy, Rep K H dx x ∧ Rep K H dy y ∧ SeqAt.shaped dx = true ∧ SeqAt.shaped dy = true ∧ Q (.bl (if neg then !PyData.eqv dx dy else PyData.eqv dx dy)) H
theorem op_eqD (hu : X.A.units + 64 < cLine) : OpR X (compareOp .Eq) (rEqD X.K false) := by
  intro pins s σ H x y v u Q I rx ry h
  obtain ⟨dx, dy, hx, hy, sx, sy, q⟩ := h
  obtain ⟨as, ha⟩ := Rep.reads I dx x v hx rx
  obtain ⟨bs, hb⟩ := Rep.reads I dy y u hy ry
  exact eq_dataH ha hb sx sy hu ⟨.bl _, H, I, rfl, q⟩
theorem op_neD (hu : X.A.units + 64 < cLine) : OpR X (compareOp .NotEq) (rEqD X.K true) := by
  intro pins s σ H x y v u Q I rx ry h
  obtain ⟨dx, dy, hx, hy, sx, sy, q⟩ := h
  obtain ⟨as, ha⟩ := Rep.reads I dx x v hx rx
  obtain ⟨bs, hb⟩ := Rep.reads I dy y u hy ry
  exact ne_dataH ha hb sx sy hu ⟨.bl _, H, I, rfl, q⟩
theorem Vals.types : ∀ {Ts : List String} {its : List Value}, Vals (Ts.map V.ty) its → its = Ts.map Value.type
  | [], _, h => by cases h; rfl
  | t :: Ts, its, h => by
    cases h with
    | cons r1 r2 => rw [show _ = Value.type t from r1, Vals.types r2]; rfl
def wideN : Nat := 2 ^ 8000
def Wide (i : Int) : Prop := i.natAbs < wideN
theorem wide_log {j : Int} (h : Wide j) : j.natAbs.log2 < 9000 := by
  by_cases h0 : j.natAbs = 0
  · rw [h0]; decide +kernel
  · exact Nat.lt_trans ((Nat.log2_lt h0).mpr h) (by decide)
def CMulW (i j : Int) : Prop := Wide i ∧ Wide j
theorem wide_bits {j : Int} (h : Wide j) : Builtin.Int.intBits j ≤ 2 ^ 20 := by
  unfold Builtin.Int.intBits
  by_cases h0 : (j == 0) = true
  · rw [if_pos h0]; exact Nat.zero_le _
  · rw [if_neg h0]
    have := wide_log h
    omega
end
end L2

end

section
set_option Elab.async false
set_option linter.all false
set_option maxRecDepth 100000
set_option maxHeartbeats 4000000
namespace L2
open PySem PySem.Spec PyProof.Rows
structure Callee (P : Program) (w : World) (K : PySem.W.Frag) (mg : Str → Option Value) (base : Heap) (k : Nat) (x : Str) (ps : List Str) (sp : Sp) : Prop where
  ex : ∃ f fd, FnOk P w K mg base CX0 k f fd ps sp ∧ mg x = some (.ref f) ∧ PySem.W.keepIn K (.ref f) = true ∧ Binds K fd ps []
structure Def (K : PySem.W.Frag) (mg : Str → Option Value) (x : Str) (st : Stmt) : Prop where
  ex : ∃ f fd, Fun K x x st f fd ∧ mg x = some (.ref f)
section
variable {P : Program} {w : World} {K : PySem.W.Frag} {mg : Str → Option Value} {base : Heap} {X : Cx}
theorem Def.ok {x : Str} {st : Stmt} {N ps : List Str} {k : Nat} {sp : Sp} (D : Def K mg x st) (S : FnScope N ps (defScope st))
    (hb : ∀ (kV doc pm : Value) (an : Option Addr) (cdv ct : Value) (us : List Value), us.length = ps.length → bindArgs (PySem.W.fnOf x x (defArgs st) (defBody st) (defScope st) .none kV doc pm an cdv ct) ⟨us, []⟩ = pure (ps.zip us))
    (len : ∀ vs H Q E, sp vs H Q E → vs.length = ps.length)
    (hbody : ∀ (f : Addr) (cdv : Value) (A : Around) (outer : List Env) (s : Shared) (H : Hp) (vs : List V) (Q : VK) (E : XK), Room k (A.deeper (envOfC x (defScope st) s.heap.objs.size f cdv)) → sp vs H Q E →
      ∃ t, PSs (cxOf CX0 P w K mg base N x (defScope st) f cdv A outer s H E).nox (defBody st) t ∧ t { nx := fun _ H' => Q .non H', rt := Q } (start N vs) H) : Callee P w K mg base (k + 1) x ps sp := by
  obtain ⟨f, fd, F, m⟩ := D.ex
  exact ⟨f, fd, F.ok S len fun cdv A outer s H vs Q E hr h => hbody f cdv A outer s H vs Q E hr h, m, F.kp, F.binds hb⟩
theorem Callee.mono {j k : Nat} {x : Str} {ps : List Str} {sp : Sp} (C : Callee P w K mg base j x ps sp) (h : j ≤ k) : Callee P w K mg base k x ps sp := by
  obtain ⟨f, fd, F, r⟩ := C.ex
  exact ⟨f, fd, F.mono h, r⟩
theorem def_mk {x : Str} {st : Stmt} {h : Heap} {f : Addr} {oc : Value} {od an : Option Addr} {osl : Array (Option Value)} {kV doc pm cdv ct : Value} (X : K.In h) (G : h.Ns mainGlobals mg) (a : PySem.W.nsIn K mainGlobals x = some (some (.ref f)))
    (l : K.lookup f = some ⟨oc, od, .func (PySem.W.fnOf x x (defArgs st) (defBody st) (defScope st) .none kV doc pm an cdv ct), osl⟩) (c : PySem.W.codeIn K cdv x = true) (k : PySem.W.keepIn K (.ref f) = true) : Def K mg x st :=
  ⟨f, _, fun_mk l c k, PySem.W.mg_of X G a⟩
theorem pe_cal {k : Nat} {x : Str} {ps : List Str} {sp : Sp} {p pos : Pos} {e : Expr} {es : List Expr} {t : TA} (C : Callee X.prog X.w X.K X.mg X.base k x ps sp) (hr : Room k X.A) (ha : PA X (e :: es) t) (hg : Gl X x := by rfl)
    (hdb : (x == ("__debug__" : Str)) = false := by decide) (he : starEach (e :: es) X.env = (false, eval e X.env) :: starEach es X.env := by rfl) (hpl : (backTo pos (starEach es X.env)).any (·.1) = false := by rfl) :
    PE X (.Call (.Name x p) (e :: es) [] pos) (tCall sp [] E0 t) := by
  obtain ⟨f, fd, F, m, kp, b⟩ := C.ex
  exact pe_call F hr hg m kp b .nil pass0 ha hdb he hpl
def Free (mg : Str → Option Value) (xs : List Str) : Prop := ∀ x ∈ xs, mg x = none
theorem Free.of {xs : List Str} (h : Free mg xs) (x : Str) (hx : x ∈ xs := by decide +kernel) : mg x = none := h x hx
theorem free_nil : Free mg [] := fun _ h => absurd h (by simp)
theorem free_cons {x : Str} {xs : List Str} (h : mg x = none) (hr : Free mg xs) : Free mg (x :: xs) := fun y hy => (List.mem_cons.mp hy).elim (fun e => e ▸ h) (hr y)
def CMulA (i j : Int) : Prop := CMul i j ∨ CMulW i j
theorem CMulA.ok {i j : Int} (h : CMulA i j) : IntMulOk i j := by
  rcases h with h | h
  · exact h.ok
  · exact IntMulOk.of_bits (wide_bits h.1) (wide_bits h.2)
theorem op_mulA : OpR X (binaryOp .Mult) (rI CMulA fun i j => .int (i * j)) := opI fun _ _ _ _ _ _ _ hc q => mul_int q hc.ok
def CDivA (_ j : Int) : Prop := 0 < j ∧ Wide j
theorem op_fdivA : OpR X (binaryOp .FloorDiv) (rI CDivA fun i j => .int (i / j)) := opI fun i j _ _ _ _ _ hc q => by
  refine floordiv_int (Int.ne_of_gt hc.1) ?_ (.inl (PyProof.noPylong_of_log2 (wide_log hc.2)))
  rw [Int.fdiv_eq_ediv_of_nonneg _ (Int.le_of_lt hc.1)]
  exact q
end
end L2
namespace L2
open PySem PySem.Spec PyProof.Rows
def chkLc (sc0 : Scope) (N N' : List Str) (cap : List (Option Nat)) (scope : Scope) : Bool :=
  scope.names.all (fun y => y.2 != .cell) && (scope.kind == .function) && scope.names.all (fun y => y.2 != .local || scope.names.lookup y.1 == some .local) &&
  scope.names.all (fun y => y.2 != .free || (sc0.names.lookup y.1 == some .cell || sc0.names.lookup y.1 == some .free)) && (cap.length == N'.length) &&
  (List.range cap.length).all fun i => match cap[i]? with
    | some (some j) => (match N'[i]?, N[j]? with
      | some x, some y => x == y && scope.names.lookup x == some .free
      | _, _ => false)
    | _ => true
theorem lcsc_of {X : Cx} {sc0 scope : Scope} {N N' : List Str} {cap : List (Option Nat)} (h1 : X.env.scope = sc0) (h2 : X.N = N) (h : chkLc sc0 N N' cap scope = true) : LcSc X N' cap scope := by
  unfold chkLc at h
  simp only [Bool.and_eq_true, List.all_eq_true, beq_iff_eq, bne_iff_ne, ne_eq, Bool.or_eq_true, List.mem_range] at h
  obtain ⟨⟨⟨⟨⟨a, b⟩, c⟩, d⟩, e⟩, f⟩ := h
  refine ⟨a, b, fun y hy hk => ?_, fun y hy hk => ?_, e, fun i j hij => ?_⟩
  · rcases c y hy with z | z
    · exact absurd hk z
    · exact z
  · show X.env.scope.names.lookup y.1 = _ ∨ X.env.scope.names.lookup y.1 = _
    rw [h1]
    rcases d y hy with z | z
    · exact absurd hk z
    · exact z
  · have hi : i < cap.length := (List.getElem?_eq_some_iff.mp hij).1
    have g := f i hi
    rw [hij] at g
    dsimp only at g
    rw [h2]
    split at g
    · rename_i x y ex ey
      rw [Bool.and_eq_true, beq_iff_eq, beq_iff_eq] at g
      exact ⟨x, ex, by rw [ey, g.1], g.2⟩
    · cases g
end L2

end

section
set_option Elab.async false
set_option linter.all false
set_option maxRecDepth 100000
set_option maxHeartbeats 4000000
namespace L2
open PySem PySem.Spec PyProof.Rows
def tyName : PyData → String
  | .none => "NoneType"
  | .bool _ => "bool"
  | .int _ => "int"
  | .str _ => "str"
  | .list _ => "list"
  | .tuple _ => "tuple"
  | .dict _ => "dict"
def asked : List String := ["int", "bool", "str", "list", "tuple", "dict"]
def isT (T S : String) : Bool := T == S || (T == "int" && S == "bool")
def isiD (T : String) (d : PyData) : Bool := isT T (tyName d)
def kitB (S T : String) : Option Bool := if (Value.type S == Value.type T) = true then some true else if PySem.W.kitMeta T = true then (PySem.fastBuiltinMro S).map (·.contains (Value.type T)) else none
theorem kitB_all : (["NoneType", "bool", "int", "str", "list", "tuple", "dict"].all fun S => asked.all fun T => kitB S T == some (isT T S)) = true := by decide +kernel
theorem kit_is {K : PySem.W.Frag} {T : String} {d : PyData} (h : T ∈ asked) : PySem.W.kitOne K (.type (tyName d)) (.type T) = some (isiD T d) := by
  have e : PySem.W.kitOne K (.type (tyName d)) (.type T) = kitB (tyName d) T := rfl
  rw [e]
  have hk := kitB_all
  rw [List.all_eq_true] at hk
  have h1 := hk (tyName d) (by cases d <;> simp [tyName])
  rw [List.all_eq_true] at h1
  exact eq_of_beq (h1 T h)
theorem kit_any {K : PySem.W.Frag} {d : PyData} : ∀ {Ts : List String}, (∀ T ∈ Ts, T ∈ asked) → PySem.W.kitAny K (.type (tyName d)) (Ts.map Value.type) = some (Ts.any fun T => isiD T d)
  | [], _ => rfl
  | T :: Ts, h => by
    rw [List.map_cons]
    unfold PySem.W.kitAny
    rw [kit_is (h T List.mem_cons_self), List.any_cons]
    cases isiD T d with
    | true => rfl
    | false => rw [Bool.false_or]; exact kit_any fun U hU => h U (List.mem_cons_of_mem _ hU)
section
variable {X : Cx}
theorem kit_rep {pins : List (Addr × Obj)} {σ : St} {H : Hp} {s : Shared} (I : Inv X pins σ H s) : ∀ {d : PyData} {v : V} {u : Value}, Rep X.K H d v → RelV v u → ∃ Hc : Heap → Prop, PySem.W.KitX X.K u (.type (tyName d)) Hc ∧ Hc s.heap ∧ u ≠ .builtin "__main__.__loader__#opaque"
  | .none, v, u, h, r => by
    rw [show v = .non from h] at r
    cases (show u = Value.none from r)
    exact ⟨_, PySem.W.kitx_none, True.intro, fun z => nomatch z⟩
  | .bool b, v, u, h, r => by
    rw [show v = .bl b from h] at r
    cases (show u = Value.bool b from r)
    exact ⟨_, PySem.W.kitx_bool, True.intro, fun z => nomatch z⟩
  | .int i, v, u, h, r => by
    rw [show v = .int i from h] at r
    obtain ⟨t, q⟩ := (show ∃ t, u = Value.int i t from r)
    cases q
    exact ⟨_, PySem.W.kitx_int, True.intro, fun z => nomatch z⟩
  | .str x, v, u, h, r => by
    rw [show v = .str x from h] at r
    obtain ⟨t, q⟩ := (show ∃ t, u = Value.str x t from r)
    cases q
    exact ⟨_, PySem.W.kitx_str, True.intro, fun z => nomatch z⟩
  | .list xs, v, u, h, r => by
    obtain ⟨a, vs, rfl, h2, _⟩ := h
    cases (show u = Value.ref a from r)
    obtain ⟨its, hv, ⟨o, n, hg, hc, _, hd⟩, _⟩ := I.list h2
    exact ⟨_, PySem.W.kitx_list, ⟨o, hg, hc⟩, fun z => nomatch z⟩
  | .tuple xs, v, u, h, r => by
    obtain ⟨a, vs, rfl, h2, _⟩ := h
    cases (show u = Value.ref a from r)
    obtain ⟨its, hv, ⟨o, hg, hc, n, hd⟩, _⟩ := I.tuple h2
    exact ⟨_, PySem.W.kitx_tuple, ⟨o, hg, hc⟩, fun z => nomatch z⟩
  | .dict kvs, v, u, h, r => by
    obtain ⟨a, ks, rfl, h2, _⟩ := h
    cases (show u = Value.ref a from r)
    obtain ⟨_, _, vs, _, o, es, ep, h1, hx, _⟩ := (show ObjOk X.prog X.w H s.heap a (.dK ks) from I.hok a _ h2)
    exact ⟨_, PySem.W.kitx_dict, ⟨o, h1, hx.1⟩, fun z => nomatch z⟩
def rIsi (K : PySem.W.Frag) : List V → Hp → VK → Prop := fun xs H Q => ∃ x T d, xs = [x, .ty T] ∧ T ∈ asked ∧ Rep K H d x ∧ Q (.bl (isiD T d)) H
theorem call_isiD : CallR X (.builtin "isinstance") (rIsi X.K) := by
  intro pins s σ H xs us Q I r h
  obtain ⟨x, T, d, rfl, hT, hd, q⟩ := h
  obtain ⟨u, u', rfl, ru, ru'⟩ := vals2 r
  cases (show u' = Value.type T from ru')
  obtain ⟨Hc, Z, hh, hne⟩ := kit_rep I hd ru
  exact PySem.W.kia_one Z I.kIn hh (kit_is hT) hne fun tk => ⟨.bl _, H, I.tok tk, rfl, q⟩
def rIsi2 (K : PySem.W.Frag) : List V → Hp → VK → Prop := fun xs H Q => ∃ (x : V) (p : Addr) (Ts : List String) (d : PyData), xs = [x, .ref p] ∧ H p = some (.tup (Ts.map V.ty)) ∧ (∀ T ∈ Ts, T ∈ asked) ∧ Rep K H d x ∧ Q (.bl (Ts.any fun T => isiD T d)) H
theorem call_isi2D : CallR X (.builtin "isinstance") (rIsi2 X.K) := by
  intro pins s σ H xs us Q I r h
  obtain ⟨x, p, Ts, d, rfl, hp, hT, hd, q⟩ := h
  obtain ⟨u, u', rfl, ru, ru'⟩ := vals2 r
  cases (show u' = Value.ref p from ru')
  obtain ⟨_, its, rv, o, hg, hcl, n, hd'⟩ := (show ObjOk X.prog X.w H s.heap p (.tup (Ts.map V.ty)) from I.hok p _ hp)
  have hits : its = Ts.map Value.type := Vals.types rv
  subst hits
  obtain ⟨oc, od, odt, osl⟩ := o
  dsimp only at hcl hd'
  subst hcl hd'
  obtain ⟨Hc, Z, hh, hne⟩ := kit_rep I hd ru
  exact PySem.W.kia_tup Z I.kIn hh hg (kit_any hT) hne fun tk => ⟨.bl _, H, I.tok tk, rfl, q⟩
end
theorem Same.upd {H : Hp} {p : Addr} {o : HO} (h : H p = none) : Same H (upd H p o) := fun b u e => by rw [upd_ne (ne_of_none e h)]; exact e
def itemsD : PyData → Option (List PyData)
  | .list xs => some xs
  | .tuple xs => some xs
  | _ => none
theorem rep_seq {K : PySem.W.Frag} {H : Hp} : ∀ {d : PyData} {v : V} {ds : List PyData}, Rep K H d v → itemsD d = some ds → ∃ a vs, v = .ref a ∧ (SqL K H a vs ∨ SqT K H a vs) ∧ RepAll K H ds vs
  | .list xs, v, ds, h, e => by
    obtain ⟨a, vs, h1, h2, h3⟩ := h
    cases e
    exact ⟨a, vs, h1, .inl h2, h3⟩
  | .tuple xs, v, ds, h, e => by
    obtain ⟨a, vs, h1, h2, h3⟩ := h
    cases e
    exact ⟨a, vs, h1, .inr h2, h3⟩
  | .none, _, _, _, e => by cases e
  | .bool _, _, _, _, e => by cases e
  | .int _, _, _, _, e => by cases e
  | .str _, _, _, _, e => by cases e
  | .dict _, _, _, _, e => by cases e
section
variable {X : Cx} {tg : Expr}
def iSeq (K : PySem.W.Frag) (tl : TE) : TI := fun σ H R => tl σ H fun x H1 => ∃ a, x = .ref a ∧ ((∃ xs, SqL K H1 a xs ∧ R (Itl K a) H1) ∨ (∃ xs, SqT K H1 a xs ∧ R (Itt K a) H1))
theorem pi_seq {l : Expr} {tl : TE} (hl : PE X l tl) : PI X tg l (iSeq X.K tl) := by
  intro pins s σ H R I h
  refine thn (hl pins s σ H _ I h) fun v s1 hz => ?_
  obtain ⟨x, H1, I1, r1, a, e, q1⟩ := hz
  subst e
  cases r1
  have fp : ∀ b ∈ [s1.heap.objs.size], FpOk X pins H1 b := fun b hb => by
    have e : b = s1.heap.objs.size := List.mem_singleton.mp hb
    subst e
    exact I1.fpOk (Nat.le_refl _) (I1.hok.fresh (Nat.le_refl _))
  rcases q1 with ⟨xs, hq, q⟩ | ⟨xs, hq, q⟩
  · obtain ⟨its, rv, p, hz⟩ := I1.list hq
    refine wpAny_pyIter_list p.isList ?_
    exact ⟨s1.heap.objs.size, [s1.heap.objs.size], _, _, H1, rfl, I1.kept (t' := s1.toks) fun b o e => Heap.get?_push_of_some _ e, turn_list a _, ⟨_, Heap.get?_push_size _ rfl, rfl, rfl⟩, fp, q⟩
  · obtain ⟨its, rv, p, hz⟩ := I1.tuple hq
    refine wpAny_pyIter_tuple (show s1.heap.IsTuple a its.toArray from p) ?_
    exact ⟨s1.heap.objs.size, [s1.heap.objs.size], _, _, H1, rfl, I1.kept (t' := s1.toks) fun b o e => Heap.get?_push_of_some _ e, turn_tuple a _, ⟨_, Heap.get?_push_size _ rfl, rfl, rfl⟩, fp, q⟩
end
end L2

end

section
set_option Elab.async false
set_option linter.all false
set_option maxRecDepth 100000
set_option maxHeartbeats 4000000
namespace L2
open PySem PySem.Spec PyProof.Rows
inductive CD where
  | d (x : PyData)
  | c (n : Nat)
inductive Cell where
  | lst (xs : List CD)
  | dk (kvs : List (Key × CD))
  | dt (kvs : List (List Key × CD))
  | obj (nm : Str) (fs : List (Str × CD))
  | exc (fr : Bool) (nm : Str) (fs : List (Str × CD))
  | dead
structure Wd where
  F : Hp
  α : Nat → Addr
  n : Nat
structure Wd.Ext (W W' : Wd) : Prop where
  ff : Same W.F W'.F
  ln : W.n ≤ W'.n
  al : ∀ i, i < W.n → W'.α i = W.α i
theorem Wd.Ext.refl (W : Wd) : W.Ext W := ⟨Same.refl _, Nat.le_refl _, fun _ _ => rfl⟩
theorem Wd.Ext.trans {W W1 W2 : Wd} (a : W.Ext W1) (b : W1.Ext W2) : W.Ext W2 := ⟨a.ff.trans b.ff, Nat.le_trans a.ln b.ln, fun i h => (b.al i (Nat.lt_of_lt_of_le h a.ln)).trans (a.al i h)⟩
def RepV (K : PySem.W.Frag) (W : Wd) : CD → V → Prop
  | .d x, v => Rep K W.F x v
  | .c i, v => i < W.n ∧ v = .ref (W.α i)
abbrev RepVs (K : PySem.W.Frag) (W : Wd) : List CD → List V → Prop := Paired (RepV K W)
def RepO (K : PySem.W.Frag) (W : Wd) : Option CD → Option V → Prop
  | none, none => True
  | some x, some v => RepV K W x v
  | _, _ => False
abbrev RepS (K : PySem.W.Frag) (W : Wd) : List (Option CD) → St → Prop := Paired (RepO K W)
def clOf (K : PySem.W.Frag) (nm : Str) : Addr := match PySem.W.nsIn K mainGlobals nm with
  | some (some (.ref C)) => C
  | _ => 0
def ExcO (a : Addr) (c : Value) (dx : Option Addr) (fr : Bool) (h : Heap) : Prop := ∃ o vs, h.get? a = some o ∧ o.cls = c ∧ o.dict = dx ∧ o.data = .fields vs ∧ (fr = true → 1 < vs.size ∧ vs[1]? = some .none)
def RepX (K : PySem.W.Frag) (W : Wd) (dx : Option Addr) (fs : List (Str × CD)) : Prop := match dx with
  | none => fs = []
  | some d => fs ≠ [] ∧ ∃ us, W.F d = some (.xd us) ∧ Paired (fun p q => p.1 = q.1 ∧ RepV K W p.2 q.2) fs us
def RepC (K : PySem.W.Frag) (W : Wd) (a : Addr) : Cell → HO → Prop
  | .lst xs, .lst vs => RepVs K W xs vs
  | .dk kvs, .dK us => Paired (fun p q => p.1 = q.1 ∧ RepV K W p.2 q.2) kvs us
  | .dt kvs, .dT us => Paired (fun p q => p.1 = q.1 ∧ RepV K W p.2 q.2) kvs us
  | .obj nm fs, .ins C _ us => C = clOf K nm ∧ Paired (fun p q => p.1 = q.1 ∧ RepV K W p.2 q.2) fs us
  | .exc fr nm fs, .ext φ => ∃ dx, φ = ExcO a (.ref (clOf K nm)) dx fr ∧ RepX K W dx fs
  | _, _ => False
structure Good (K : PySem.W.Frag) (W : Wd) (M : List Cell) (H : Hp) : Prop where
  fh : Same W.F H
  n : W.n = M.length
  cs : ∀ i c, M[i]? = some c → c ≠ .dead → W.F (W.α i) = none ∧ ∃ o, H (W.α i) = some o ∧ RepC K W (W.α i) c o
  inj : ∀ i j c c', M[i]? = some c → M[j]? = some c' → c ≠ .dead → c' ≠ .dead → W.α i = W.α j → i = j
section
variable {K : PySem.W.Frag} {W W' : Wd} {M M' : List Cell} {H H' : Hp}
theorem RepV.up {x : CD} {v : V} (h : RepV K W x v) (e : W.Ext W') : RepV K W' x v := by
  cases x with
  | d x => exact Rep.same e.ff _ _ h
  | c i => exact ⟨Nat.lt_of_lt_of_le h.1 e.ln, by rw [e.al i h.1]; exact h.2⟩
theorem RepVs.up {xs : List CD} {vs : List V} (h : RepVs K W xs vs) (e : W.Ext W') : RepVs K W' xs vs := Paired.mapP h fun _ _ r => RepV.up r e
theorem RepS.up {γ : List (Option CD)} {σ : St} (h : RepS K W γ σ) (e : W.Ext W') : RepS K W' γ σ := Paired.mapP h fun a b r => by
  cases a <;> cases b
  · exact True.intro
  · exact False.elim r
  · exact False.elim r
  · exact RepV.up r e
theorem RepX.up {dx : Option Addr} {fs : List (Str × CD)} (h : RepX K W dx fs) (e : W.Ext W') : RepX K W' dx fs := by
  cases dx with
  | none => exact h
  | some d =>
    obtain ⟨h0, us, h1, h2⟩ := h
    exact ⟨h0, us, e.ff _ _ h1, Paired.mapP h2 fun _ _ r => ⟨r.1, RepV.up r.2 e⟩⟩
theorem RepC.up {a : Addr} {c : Cell} {o : HO} (h : RepC K W a c o) (e : W.Ext W') : RepC K W' a c o := by
  cases c <;> cases o <;> first | exact (let ⟨dx, h1, h2⟩ := h; ⟨dx, h1, h2.up e⟩) | exact False.elim h | exact RepVs.up h e | exact Paired.mapP h fun _ _ r => ⟨r.1, RepV.up r.2 e⟩ | exact ⟨h.1, Paired.mapP h.2 fun _ _ r => ⟨r.1, RepV.up r.2 e⟩⟩
theorem Good.lay (g : Good K W M H) {p : Addr} {o : HO} (hp : H p = none) : W.Ext { W with F := upd W.F p o } ∧ Good K { W with F := upd W.F p o } M (upd H p o) := by
  have fp : W.F p = none := g.fh.free hp
  have e : W.Ext { W with F := upd W.F p o } := ⟨Same.upd fp, Nat.le_refl _, fun _ _ => rfl⟩
  refine ⟨e, ?_, g.n, fun i c hi hc => ?_, g.inj⟩
  · intro b u hb
    have hb : upd W.F p o b = some u := hb
    by_cases q : b = p
    · subst q; rw [upd_same] at hb; rw [upd_same]; exact hb
    · rw [upd_ne q] at hb
      rw [upd_ne q]; exact g.fh b u hb
  · obtain ⟨h1, o', h2, h3⟩ := g.cs i c hi hc
    have ne : W.α i ≠ p := ne_of_none h2 hp
    exact ⟨by show upd W.F p o (W.α i) = none; rw [upd_ne ne]; exact h1, o', by rw [upd_ne ne]; exact h2, h3.up e⟩
def Wd.more (W : Wd) (p : Addr) : Wd := { W with α := fun i => if i = W.n then p else W.α i, n := W.n + 1 }
theorem Wd.ext_more (W : Wd) (p : Addr) : W.Ext (W.more p) := ⟨Same.refl _, Nat.le_succ _, fun i h => if_neg (Nat.ne_of_lt h)⟩
theorem Good.new (g : Good K W M H) {p : Addr} {c : Cell} {o : HO} (hp : H p = none) (r : RepC K W p c o) : Good K (W.more p) (M ++ [c]) (upd H p o) := by
  have e := W.ext_more p
  have at_ : ∀ i c', (M ++ [c])[i]? = some c' → (i < M.length ∧ M[i]? = some c') ∨ (i = M.length ∧ c' = c) := fun i c' h => by
    by_cases q : i < M.length
    · rw [List.getElem?_append_left q] at h; exact .inl ⟨q, h⟩
    · rw [List.getElem?_append_right (Nat.le_of_not_lt q)] at h
      have h' : i - M.length = 0 := by
        cases k : i - M.length with
        | zero => rfl
        | succ m => rw [k] at h; simp at h
      rw [h'] at h
      refine .inr ⟨by omega, ?_⟩
      simpa using h.symm
  have al : ∀ i, i < M.length → (W.more p).α i = W.α i := fun i h => e.al i (by rw [g.n]; exact h)
  have an : (W.more p).α M.length = p := by show (if M.length = W.n then p else _) = p; rw [if_pos g.n.symm]
  have nep : ∀ i c', M[i]? = some c' → c' ≠ .dead → W.α i ≠ p := fun i c' h hc => by
    obtain ⟨_, o', h2, _⟩ := g.cs i c' h hc
    exact ne_of_none h2 hp
  refine ⟨?_, ?_, fun i c' hi hc => ?_, fun i j c1 c2 hi hj d1 d2 he => ?_⟩
  · intro b u hb
    have := g.fh b u hb
    rw [upd_ne (ne_of_none this hp)]; exact this
  · show W.n + 1 = _
    rw [g.n, List.length_append]; rfl
  · rcases at_ i c' hi with ⟨q, h⟩ | ⟨rfl, rfl⟩
    · obtain ⟨h1, o', h2, h3⟩ := g.cs i c' h hc
      rw [al i q]
      exact ⟨h1, o', by rw [upd_ne (nep i c' h hc)]; exact h2, h3.up e⟩
    · rw [an]
      exact ⟨g.fh.free hp, o, upd_same, r.up e⟩
  · rcases at_ i c1 hi with ⟨q, h⟩ | ⟨rfl, rfl⟩
    · rcases at_ j c2 hj with ⟨q', h'⟩ | ⟨rfl, rfl⟩
      · rw [al i q, al j q'] at he
        exact g.inj i j c1 c2 h h' d1 d2 he
      · rw [al i q, an] at he
        exact absurd he (nep i c1 h d1)
    · rcases at_ j c2 hj with ⟨q', h'⟩ | ⟨rfl, rfl⟩
      · rw [an, al j q'] at he
        exact absurd he.symm (nep j c2 h' d2)
      · rfl
theorem Good.set (g : Good K W M H) {i : Nat} {c c' : Cell} {o' : HO} (hi : M[i]? = some c) (hc : c ≠ .dead) (r : RepC K W (W.α i) c' o') : Good K W (M.set i c') (upd H (W.α i) o') := by
  obtain ⟨h1, o, h2, h3⟩ := g.cs i c hi hc
  have lt : i < M.length := (List.getElem?_eq_some_iff.mp hi).1
  have at_ : ∀ j d, (M.set i c')[j]? = some d → (j = i ∧ d = c') ∨ (j ≠ i ∧ M[j]? = some d) := fun j d h => by
    by_cases q : i = j
    · subst q; rw [List.getElem?_set_self lt] at h; exact .inl ⟨rfl, (Option.some.inj h).symm⟩
    · rw [List.getElem?_set_ne q] at h; exact .inr ⟨fun z => q z.symm, h⟩
  refine ⟨?_, by rw [g.n, List.length_set], fun j d hj hd => ?_, fun j k d1 d2 hj hk e1 e2 he => ?_⟩
  · intro b u hb
    rw [upd_ne (ne_of_none hb h1)]; exact g.fh b u hb
  · rcases at_ j d hj with ⟨rfl, rfl⟩ | ⟨q, h⟩
    · exact ⟨h1, o', upd_same, r⟩
    · obtain ⟨k1, u, k2, k3⟩ := g.cs j d h hd
      have ne : W.α j ≠ W.α i := fun z => q (g.inj j i d c h hi hd hc z)
      exact ⟨k1, u, by rw [upd_ne ne]; exact k2, k3⟩
  · rcases at_ j d1 hj with ⟨rfl, rfl⟩ | ⟨q, h⟩ <;> rcases at_ k d2 hk with ⟨rfl, rfl⟩ | ⟨q', h'⟩
    · rfl
    · exact g.inj _ k c d2 hi h' hc e2 he
    · exact g.inj j _ d1 c h hi e1 hc he
    · exact g.inj j k d1 d2 h h' e1 e2 he
end
end L2

end

section
set_option Elab.async false
set_option linter.all false
set_option maxRecDepth 100000
set_option maxHeartbeats 4000000
namespace L2
open PySem PySem.Spec PyProof.Rows
abbrev Ga := List (Option CD)
abbrev Sto := List Cell
abbrev EF := Ga → Sto → Option (CD × Sto)
abbrev TF := Ga → Sto → Option (Bool × Sto)
abbrev AF := Ga → Sto → Option (List CD × Sto)
inductive Out where
  | nx (γ : Ga) | bk (γ : Ga) | ct (γ : Ga) | rt (x : CD)
abbrev SF := Ga → Sto → Option (Out × Sto)
abbrev GF := CD → Ga → Sto → Option (Ga × Sto)
abbrev GsF := List CD → Ga → Sto → Option (Ga × Sto)
abbrev F2 := CD → CD → Sto → Option (CD × Sto)
abbrev FN := List CD → Sto → Option (CD × Sto)
section
variable (K : PySem.W.Frag)
def SE (t : TE) (f : EF) : Prop := ∀ γ M x M', f γ M = some (x, M') → ∀ (W : Wd) (H : Hp) (σ : St) (Q : VK), Good K W M H → RepS K W γ σ → (∀ v W' H', W.Ext W' → Good K W' M' H' → RepV K W' x v → Q v H') → t σ H Q
def STt (t : TT) (f : TF) : Prop := ∀ γ M b M', f γ M = some (b, M') → ∀ (W : Wd) (H : Hp) (σ : St) (Q : Bool → Hp → Prop), Good K W M H → RepS K W γ σ → (∀ W' H', W.Ext W' → Good K W' M' H' → Q b H') → t σ H Q
def SA (t : TA) (f : AF) : Prop := ∀ γ M xs M', f γ M = some (xs, M') → ∀ (W : Wd) (H : Hp) (σ : St) (Q : List V → Hp → Prop), Good K W M H → RepS K W γ σ → (∀ vs W' H', W.Ext W' → Good K W' M' H' → RepVs K W' xs vs → Q vs H') → t σ H Q
def OutOk (D : Ends) (W : Wd) (H : Hp) : Out → Prop
  | .nx γ => ∀ σ, RepS K W γ σ → D.nx σ H
  | .bk γ => ∀ σ, RepS K W γ σ → D.bk σ H
  | .ct γ => ∀ σ, RepS K W γ σ → D.ct σ H
  | .rt x => ∀ v, RepV K W x v → D.rt v H
def SS (t : TS) (f : SF) : Prop := ∀ γ M o M', f γ M = some (o, M') → ∀ (W : Wd) (H : Hp) (σ : St) (D : Ends), Good K W M H → RepS K W γ σ → (∀ W' H', W.Ext W' → Good K W' M' H' → OutOk K D W' H' o) → t D σ H
def SG (t : TG) (f : GF) : Prop := ∀ x γ M γ' M', f x γ M = some (γ', M') → ∀ (W : Wd) (H : Hp) (σ : St) (v : V) (Q : St → Hp → Prop), Good K W M H → RepS K W γ σ → RepV K W x v → (∀ σ' W' H', W.Ext W' → Good K W' M' H' → RepS K W' γ' σ' → Q σ' H') → t v σ H Q
def SGs (t : TGs) (f : GsF) : Prop := ∀ xs γ M γ' M', f xs γ M = some (γ', M') → ∀ (W : Wd) (H : Hp) (σ : St) (vs : List V) (Q : St → Hp → Prop), Good K W M H → RepS K W γ σ → RepVs K W xs vs → (∀ σ' W' H', W.Ext W' → Good K W' M' H' → RepS K W' γ' σ' → Q σ' H') → t vs σ H Q
def P2 (r : R2) (f : F2) : Prop := ∀ x y M z M', f x y M = some (z, M') → ∀ (W : Wd) (H : Hp) (v u : V) (Q : VK), Good K W M H → RepV K W x v → RepV K W y u → (∀ w W' H', W.Ext W' → Good K W' M' H' → RepV K W' z w → Q w H') → r v u H Q
def PN (r : List V → Hp → VK → Prop) (f : FN) : Prop := ∀ xs M z M', f xs M = some (z, M') → ∀ (W : Wd) (H : Hp) (vs : List V) (Q : VK), Good K W M H → RepVs K W xs vs → (∀ w W' H', W.Ext W' → Good K W' M' H' → RepV K W' z w → Q w H') → r vs H Q
def spM (f : FN) : Sp := fun vs H Q _ => ∃ xs M W y M', Good K W M H ∧ RepVs K W xs vs ∧ f xs M = some (y, M') ∧ ∀ v W' H', W.Ext W' → Good K W' M' H' → RepV K W' y v → Q v H'
end
def fVar (i : Nat) : EF := fun γ M => match γ[i]? with
  | some (some x) => some (x, M)
  | _ => none
def fC (x : PyData) : EF := fun _ M => some (.d x, M)
def fOp (h : F2) (f g : EF) : EF := fun γ M => (f γ M).bind fun r => (g γ r.2).bind fun q => h r.1 q.1 q.2
def asB : CD → Option Bool
  | .d (.bool b) => some b
  | _ => none
def fAnd (f g : EF) : EF := fun γ M => (f γ M).bind fun r => (asB r.1).bind fun b => if b = true then g γ r.2 else some (.d (.bool false), r.2)
def fNot (f : EF) : EF := fun γ M => (f γ M).bind fun r => (asB r.1).bind fun b => some (.d (.bool (!b)), r.2)
def gAnd (f g : TF) : TF := fun γ M => (f γ M).bind fun r => if r.1 = true then g γ r.2 else some (false, r.2)
def gOr (f g : TF) : TF := fun γ M => (f γ M).bind fun r => if r.1 = true then some (true, r.2) else g γ r.2
def gNot (f : TF) : TF := fun γ M => (f γ M).bind fun r => some (!r.1, r.2)
def gB (f : EF) : TF := fun γ M => (f γ M).bind fun r => (asB r.1).bind fun b => some (b, r.2)
def fChain (h h' : F2) (f g e : EF) : EF := fun γ M => (f γ M).bind fun r => (g γ r.2).bind fun q => (h r.1 q.1 q.2).bind fun z => (asB z.1).bind fun b => if b = true then (e γ z.2).bind fun w => h' q.1 w.1 w.2 else some (.d (.bool false), z.2)
def fNil : AF := fun _ M => some ([], M)
def fCons (f : EF) (g : AF) : AF := fun γ M => (f γ M).bind fun r => (g γ r.2).bind fun q => some (r.1 :: q.1, q.2)
def allD : List CD → Option (List PyData)
  | [] => some []
  | .d x :: r => (allD r).map (x :: ·)
  | .c _ :: _ => none
def fTup (f : AF) : EF := fun γ M => (f γ M).bind fun r => (allD r.1).bind fun ds => if ds.length ≤ sizeLine then some (.d (.tuple ds), r.2) else none
def fLst (f : AF) : EF := fun γ M => (f γ M).bind fun r => (allD r.1).bind fun ds => if ds.length ≤ sizeLine then some (.d (.list ds), r.2) else none
def fNew (f : AF) : EF := fun γ M => (f γ M).bind fun r => if r.1.length ≤ sizeLine then some (.c r.2.length, r.2 ++ [.lst r.1]) else none
def fCall (h : FN) (f : AF) : EF := fun γ M => (f γ M).bind fun r => h r.1 r.2
def sNext : SF := fun γ M => some (.nx γ, M)
def sSeq (f g : SF) : SF := fun γ M => (f γ M).bind fun r => match r.1 with
  | .nx γ' => g γ' r.2
  | o => some (o, r.2)
def sDrop (f : EF) : SF := fun γ M => (f γ M).bind fun r => some (.nx γ, r.2)
def sRet (f : EF) : SF := fun γ M => (f γ M).bind fun r => some (.rt r.1, r.2)
def sIf (c : TF) (f g : SF) : SF := fun γ M => (c γ M).bind fun r => if r.1 = true then f γ r.2 else g γ r.2
def sAsg (f : EF) (g : GF) : SF := fun γ M => (f γ M).bind fun r => (g r.1 γ r.2).bind fun q => some (.nx q.1, q.2)
def hName (i : Nat) : GF := fun x γ M => some (γ.set i (some x), M)
def hNil : GsF := fun xs γ M => match xs with
  | [] => some (γ, M)
  | _ => none
def hCons (f : GF) (g : GsF) : GsF := fun xs γ M => match xs with
  | x :: r => (f x γ M).bind fun q => g r q.1 q.2
  | [] => none
def hTup (n : Nat) (g : GsF) : GF := fun x γ M => match x with
  | .d (.tuple ds) => if ds.length = n then g (ds.map .d) γ M else none
  | _ => none
abbrev F3 := CD → CD → CD → Sto → Option Sto
def hSub (fo fi : EF) (s : F3) : GF := fun x γ M => (fo γ M).bind fun r => (fi γ r.2).bind fun q => (s r.1 q.1 x q.2).bind fun M' => some (γ, M')
def sPar (i j : Nat) (f : AF) : SF := fun γ M => (f γ M).bind fun r => match r.1 with
  | [x, y] => some (.nx ((γ.set i (some x)).set j (some y)), r.2)
  | _ => none
def forF (g : GF) (b : SF) : List CD → Ga → Sto → Option (Out × Sto)
  | [], γ, M => some (.nx γ, M)
  | x :: xs, γ, M => (g x γ M).bind fun r => (b r.1 r.2).bind fun q => match q.1 with
    | .nx γ' => forF g b xs γ' q.2
    | .ct γ' => forF g b xs γ' q.2
    | .bk γ' => some (.nx γ', q.2)
    | .rt x => some (.rt x, q.2)
def sFor (f : AF) (g : GF) (b : SF) : SF := fun γ M => (f γ M).bind fun r => forF g b r.1 γ r.2
def whileN (c : TF) (b : SF) : Nat → Ga → Sto → Option (Out × Sto)
  | 0, _, _ => none
  | n + 1, γ, M => (c γ M).bind fun r => if r.1 = true then (b γ r.2).bind fun q => match q.1 with
    | .nx γ' => whileN c b n γ' q.2
    | .ct γ' => whileN c b n γ' q.2
    | .bk γ' => some (.nx γ', q.2)
    | .rt x => some (.rt x, q.2) else some (.nx γ, r.2)
open Classical in
noncomputable def sWhile (c : TF) (b : SF) : SF := fun γ M => if h : ∃ n, (whileN c b n γ M).isSome = true then whileN c b h.choose γ M else none
def lcF (g : GF) (c : TF) (e : EF) : List CD → Ga → Sto → Option (List CD × Sto)
  | [], γ, M => some ([], M)
  | x :: xs, γ, M => (g x γ M).bind fun a => (c a.1 a.2).bind fun b => if b.1 = true then (e a.1 b.2).bind fun r => (lcF g c e xs a.1 r.2).bind fun q => some (r.1 :: q.1, q.2) else lcF g c e xs a.1 b.2
def capG (cap : List (Option Nat)) (γ : Ga) : Ga := cap.map fun o => o.bind fun j => (γ[j]?).join
def gYes : TF := fun _ M => some (true, M)
def lcRun (cap : List (Option Nat)) (f : AF) (g : GF) (c : TF) (e : EF) : AF := fun γ M => (f γ M).bind fun r => if r.1.length ≤ sizeLine then lcF g c e r.1 (capG cap γ) r.2 else none
def fLc (cap : List (Option Nat)) (f : AF) (g : GF) (c : TF) (e : EF) : EF := fLst (lcRun cap f g c e)
def fLcN (cap : List (Option Nat)) (f : AF) (g : GF) (c : TF) (e : EF) : EF := fNew (lcRun cap f g c e)
def fnF (ps N : Nat) (b : SF) : FN := fun xs M => if xs.length = ps then (b (xs.map some ++ List.replicate (N - xs.length) none) M).bind fun r => match r.1 with
  | .rt x => some (x, r.2)
  | .nx _ => some (.d .none, r.2)
  | _ => none else none
end L2

end

section
set_option Elab.async false
set_option linter.all false
set_option maxRecDepth 100000
set_option maxHeartbeats 4000000
namespace L2
open PySem PySem.Spec PyProof.Rows
theorem bindE {α β : Type} {o : Option α} {k : α → Option β} {r : β} (h : o.bind k = some r) : ∃ a, o = some a ∧ k a = some r := by
  cases o with
  | none => cases h
  | some a => exact ⟨a, rfl, h⟩
theorem Paired.get {α β : Type} {R : α → β → Prop} : ∀ {xs : List α} {ys : List β} {i : Nat} {x : α}, Paired R xs ys → xs[i]? = some x → ∃ y, ys[i]? = some y ∧ R x y
  | _, _, _, _, .nil, e => by simp at e
  | _, _, 0, _, .cons r _, e => by simp at e; subst e; exact ⟨_, rfl, r⟩
  | _, _, i + 1, x, .cons _ t, e => by
    obtain ⟨u, h1, h2⟩ := Paired.get (i := i) (x := x) t (by simpa using e)
    exact ⟨u, by simpa using h1, h2⟩
theorem Paired.set {α β : Type} {R : α → β → Prop} {x : α} {y : β} (r : R x y) : ∀ {xs : List α} {ys : List β} (i : Nat), Paired R xs ys → Paired R (xs.set i x) (ys.set i y)
  | _, _, _, .nil => .nil
  | _, _, 0, .cons _ t => .cons r t
  | _, _, i + 1, .cons q t => .cons q (Paired.set r i t)
theorem Paired.app {α β : Type} {R : α → β → Prop} : ∀ {xs xs' : List α} {ys ys' : List β}, Paired R xs ys → Paired R xs' ys' → Paired R (xs ++ xs') (ys ++ ys')
  | _, _, _, _, .nil, s => s
  | _, _, _, _, .cons r t, s => .cons r (Paired.app t s)
theorem Paired.len {α β : Type} {R : α → β → Prop} {xs : List α} {ys : List β} (p : Paired R xs ys) : xs.length = ys.length := Paired.length p
section
variable {K : PySem.W.Frag}
theorem repAll_of {W : Wd} : ∀ {xs : List CD} {ds : List PyData} {vs : List V}, allD xs = some ds → RepVs K W xs vs → RepAll K W.F ds vs
  | [], ds, vs, e, h => by
    cases e
    cases h
    rfl
  | .c _ :: _, ds, vs, e, h => by cases e
  | .d x :: r, ds, vs, e, h => by
    cases h with
    | @cons _ v _ vs' h1 h2 =>
      unfold allD at e
      cases q : allD r with
      | none => rw [q] at e; cases e
      | some es =>
        rw [q] at e
        cases e
        exact ⟨v, vs', rfl, h1, repAll_of q h2⟩
theorem repVs_of {W : Wd} : ∀ {ds : List PyData} {vs : List V}, RepAll K W.F ds vs → RepVs K W (ds.map .d) vs
  | [], vs, h => by rw [show vs = [] from h]; exact .nil
  | d :: ds, vs, h => by
    obtain ⟨v, r, rfl, h1, h2⟩ := h
    exact .cons h1 (repVs_of h2)
theorem allD_len : ∀ {xs : List CD} {ds : List PyData}, allD xs = some ds → ds.length = xs.length
  | [], ds, e => by cases e; rfl
  | .c _ :: _, ds, e => by cases e
  | .d x :: r, ds, e => by
    unfold allD at e
    cases q : allD r with
    | none => rw [q] at e; cases e
    | some es =>
      rw [q] at e
      cases e
      rw [List.length_cons, List.length_cons, allD_len q]
theorem se_var {i : Nat} : SE K (tVar i) (fVar i) := by
  intro γ M x M' h W H σ Q g r k
  unfold fVar at h
  cases e : γ[i]? with
  | none => rw [e] at h; cases h
  | some o =>
    cases o with
    | none => rw [e] at h; cases h
    | some y =>
      rw [e] at h
      cases h
      obtain ⟨v, hv, rv⟩ := Paired.get r e
      cases v with
      | none => exact False.elim rv
      | some v => exact ⟨v, hv, k v W H (.refl _) g rv⟩
theorem se_int {i : Int} : SE K (tC (.int i)) (fC (.int i)) := by
  intro γ M x M' h W H σ Q g r k
  cases h
  exact k _ W H (.refl _) g rfl
theorem se_bl {b : Bool} : SE K (tC (.bl b)) (fC (.bool b)) := by
  intro γ M x M' h W H σ Q g r k
  cases h
  exact k _ W H (.refl _) g rfl
variable {ta tb tc : TE} {f g e : EF} {tt uu : TT} {ft gt : TF} {tA : TA} {fa : AF}
theorem se_op {r : R2} {h : F2} (p : P2 K r h) (a : SE K ta f) (b : SE K tb g) : SE K (tOp r ta tb) (fOp h f g) := by
  intro γ M x M' hh W H σ Q G R k
  obtain ⟨⟨y, M1⟩, h1, hh⟩ := bindE hh
  obtain ⟨⟨z, M2⟩, h2, hh⟩ := bindE hh
  refine a _ _ _ _ h1 W H σ _ G R fun v W1 H1 e1 G1 r1 => ?_
  refine b _ _ _ _ h2 W1 H1 σ _ G1 (R.up e1) fun u W2 H2 e2 G2 r2 => ?_
  exact p _ _ _ _ _ hh W2 H2 v u Q G2 (r1.up e2) r2 fun w W3 H3 e3 G3 r3 => k w W3 H3 ((e1.trans e2).trans e3) G3 r3
theorem asB_of {x : CD} {b : Bool} (h : asB x = some b) : x = .d (.bool b) := by
  cases x with
  | c n => cases h
  | d x => cases x <;> first | cases h; rfl | cases h
theorem se_and (a : SE K ta f) (b : SE K tb g) : SE K (tAndV ta tb) (fAnd f g) := by
  intro γ M x M' hh W H σ Q G R k
  obtain ⟨⟨y, M1⟩, h1, hh⟩ := bindE hh
  obtain ⟨c, h2, hh⟩ := bindE hh
  refine a _ _ _ _ h1 W H σ _ G R fun v W1 H1 e1 G1 r1 => ?_
  have hy : y = _ := asB_of h2
  subst hy
  refine ⟨c, r1, ?_⟩
  cases c with
  | true => rw [if_pos rfl]; rw [if_pos rfl] at hh; exact b _ _ _ _ hh W1 H1 σ Q G1 (R.up e1) fun w W3 H3 e3 G3 r3 => k w W3 H3 (e1.trans e3) G3 r3
  | false =>
    rw [if_neg Bool.false_ne_true]; rw [if_neg Bool.false_ne_true] at hh
    cases hh
    exact k _ W1 H1 e1 G1 rfl
theorem se_not (a : SE K ta f) : SE K (tNotV ta) (fNot f) := by
  intro γ M x M' hh W H σ Q G R k
  obtain ⟨⟨y, M1⟩, h1, hh⟩ := bindE hh
  obtain ⟨c, h2, hh⟩ := bindE hh
  refine a _ _ _ _ h1 W H σ _ G R fun v W1 H1 e1 G1 r1 => ?_
  have hy : y = _ := asB_of h2
  subst hy
  cases hh
  exact ⟨c, r1, k _ W1 H1 e1 G1 rfl⟩
theorem se_chain {r r' : R2} {h h' : F2} (p : P2 K r h) (p' : P2 K r' h') (a : SE K ta f) (b : SE K tb g) (c : SE K tc e) : SE K (tChain r r' ta tb tc) (fChain h h' f g e) := by
  intro γ M x M' hh W H σ Q G R k
  obtain ⟨⟨y, M1⟩, h1, hh⟩ := bindE hh
  obtain ⟨⟨z, M2⟩, h2, hh⟩ := bindE hh
  obtain ⟨⟨w, M3⟩, h3, hh⟩ := bindE hh
  obtain ⟨q, h4, hh⟩ := bindE hh
  refine a _ _ _ _ h1 W H σ _ G R fun v W1 H1 e1 G1 r1 => ?_
  refine b _ _ _ _ h2 W1 H1 σ _ G1 (R.up e1) fun u W2 H2 e2 G2 r2 => ?_
  refine p _ _ _ _ _ h3 W2 H2 v u _ G2 (r1.up e2) r2 fun t W3 H3 e3 G3 r3 => ?_
  have hy : w = _ := asB_of h4
  subst hy
  refine ⟨q, r3, ?_⟩
  have e13 := (e1.trans e2).trans e3
  cases q with
  | true =>
    rw [if_pos rfl]; rw [if_pos rfl] at hh
    obtain ⟨⟨m, M4⟩, h5, hh⟩ := bindE hh
    refine c _ _ _ _ h5 W3 H3 σ _ G3 (R.up e13) fun o W4 H4 e4 G4 r4 => ?_
    exact p' _ _ _ _ _ hh W4 H4 u o Q G4 (r2.up (e3.trans e4)) r4 fun w W5 H5 e5 G5 r5 => k w W5 H5 ((e13.trans e4).trans e5) G5 r5
  | false =>
    rw [if_neg Bool.false_ne_true]; rw [if_neg Bool.false_ne_true] at hh
    cases hh
    exact k _ W3 H3 e13 G3 rfl
theorem st_and (a : STt K tt ft) (b : STt K uu gt) : STt K (tAnd tt uu) (gAnd ft gt) := by
  intro γ M x M' hh W H σ Q G R k
  obtain ⟨⟨c, M1⟩, h1, hh⟩ := bindE hh
  refine a _ _ _ _ h1 W H σ _ G R fun W1 H1 e1 G1 => ?_
  cases c with
  | true => rw [if_pos rfl]; rw [if_pos rfl] at hh; exact b _ _ _ _ hh W1 H1 σ Q G1 (R.up e1) fun W3 H3 e3 G3 => k W3 H3 (e1.trans e3) G3
  | false => rw [if_neg Bool.false_ne_true]; rw [if_neg Bool.false_ne_true] at hh; cases hh; exact k W1 H1 e1 G1
theorem st_or (a : STt K tt ft) (b : STt K uu gt) : STt K (tOr tt uu) (gOr ft gt) := by
  intro γ M x M' hh W H σ Q G R k
  obtain ⟨⟨c, M1⟩, h1, hh⟩ := bindE hh
  refine a _ _ _ _ h1 W H σ _ G R fun W1 H1 e1 G1 => ?_
  cases c with
  | true => rw [if_pos rfl]; rw [if_pos rfl] at hh; cases hh; exact k W1 H1 e1 G1
  | false => rw [if_neg Bool.false_ne_true]; rw [if_neg Bool.false_ne_true] at hh; exact b _ _ _ _ hh W1 H1 σ Q G1 (R.up e1) fun W3 H3 e3 G3 => k W3 H3 (e1.trans e3) G3
theorem st_not (a : STt K tt ft) : STt K (tNot tt) (gNot ft) := by
  intro γ M x M' hh W H σ Q G R k
  obtain ⟨⟨c, M1⟩, h1, hh⟩ := bindE hh
  cases hh
  exact a _ _ _ _ h1 W H σ _ G R fun W1 H1 e1 G1 => k W1 H1 e1 G1
theorem st_b (a : SE K ta f) : STt K (tB ta) (gB f) := by
  intro γ M x M' hh W H σ Q G R k
  obtain ⟨⟨y, M1⟩, h1, hh⟩ := bindE hh
  obtain ⟨c, h2, hh⟩ := bindE hh
  refine a _ _ _ _ h1 W H σ _ G R fun v W1 H1 e1 G1 r1 => ?_
  have hy : y = _ := asB_of h2
  subst hy
  cases hh
  exact ⟨_, r1, k W1 H1 e1 G1⟩
theorem st_test (a : SE K ta f) : STt K (tTest ta) (gB f) := st_b a
theorem sa_nil : SA K tNil fNil := by
  intro γ M x M' hh W H σ Q G R k
  cases hh
  exact k [] W H (.refl _) G .nil
theorem sa_cons (a : SE K ta f) (b : SA K tA fa) : SA K (tCons ta tA) (fCons f fa) := by
  intro γ M x M' hh W H σ Q G R k
  obtain ⟨⟨y, M1⟩, h1, hh⟩ := bindE hh
  obtain ⟨⟨ys, M2⟩, h2, hh⟩ := bindE hh
  cases hh
  refine a _ _ _ _ h1 W H σ _ G R fun v W1 H1 e1 G1 r1 => ?_
  exact b _ _ _ _ h2 W1 H1 σ _ G1 (R.up e1) fun vs W2 H2 e2 G2 r2 => k _ W2 H2 (e1.trans e2) G2 (.cons (r1.up e2) r2)
theorem se_tup (b : SA K tA fa) : SE K (tTup tA) (fTup fa) := by
  intro γ M x M' hh W H σ Q G R k
  obtain ⟨⟨ys, M1⟩, h1, hh⟩ := bindE hh
  obtain ⟨ds, h2, hh⟩ := bindE hh
  by_cases hl : ds.length ≤ sizeLine
  · rw [if_pos hl] at hh
    cases hh
    refine b _ _ _ _ h1 W H σ _ G R fun vs W1 H1 e1 G1 r1 => ?_
    have ra := repAll_of h2 r1
    refine ⟨by rw [← ra.length]; exact hl, fun p hp => ?_⟩
    obtain ⟨e2, G2⟩ := G1.lay (o := .tup vs) hp
    exact k _ _ _ (e1.trans e2) G2 ⟨p, vs, rfl, SqT.of upd_same, RepAll.same e2.ff _ _ ra⟩
  · rw [if_neg hl] at hh; cases hh
theorem se_lst (b : SA K tA fa) : SE K (tLst tA) (fLst fa) := by
  intro γ M x M' hh W H σ Q G R k
  obtain ⟨⟨ys, M1⟩, h1, hh⟩ := bindE hh
  obtain ⟨ds, h2, hh⟩ := bindE hh
  by_cases hl : ds.length ≤ sizeLine
  · rw [if_pos hl] at hh
    cases hh
    refine b _ _ _ _ h1 W H σ _ G R fun vs W1 H1 e1 G1 r1 => ?_
    have ra := repAll_of h2 r1
    refine ⟨by rw [← ra.length]; exact hl, fun p hp => ?_⟩
    obtain ⟨e2, G2⟩ := G1.lay (o := .lst vs) hp
    exact k _ _ _ (e1.trans e2) G2 ⟨p, vs, rfl, SqL.of upd_same, RepAll.same e2.ff _ _ ra⟩
  · rw [if_neg hl] at hh; cases hh
theorem Good.newV {W : Wd} {M : Sto} {H : Hp} (g : Good K W M H) {p : Addr} : RepV K (W.more p) (.c M.length) (.ref p) := by
  refine ⟨?_, ?_⟩
  · show M.length < W.n + 1
    rw [g.n]; exact Nat.lt_succ_self _
  · show V.ref p = .ref (if M.length = W.n then p else W.α M.length)
    rw [if_pos g.n.symm]
theorem se_new (b : SA K tA fa) : SE K (tLst tA) (fNew fa) := by
  intro γ M x M' hh W H σ Q G R k
  obtain ⟨⟨ys, M1⟩, h1, hh⟩ := bindE hh
  by_cases hl : ys.length ≤ sizeLine
  · have hh : (if ys.length ≤ sizeLine then some (CD.c M1.length, M1 ++ [Cell.lst ys]) else none) = some (x, M') := hh
    rw [if_pos hl] at hh
    cases hh
    refine b _ _ _ _ h1 W H σ _ G R fun vs W1 H1 e1 G1 r1 => ?_
    refine ⟨by rw [← Paired.len r1]; exact hl, fun p hp => ?_⟩
    exact k _ _ _ (e1.trans (W1.ext_more p)) (G1.new hp (c := .lst ys) (o := .lst vs) r1) G1.newV
  · have hh : (if ys.length ≤ sizeLine then some (CD.c M1.length, M1 ++ [Cell.lst ys]) else none) = some (x, M') := hh
    rw [if_neg hl] at hh; cases hh
theorem se_call {h : FN} (b : SA K tA fa) : SE K (tCall (spM K h) [] E0 tA) (fCall h fa) := by
  intro γ M x M' hh W H σ Q G R k
  obtain ⟨⟨ys, M1⟩, h1, hh⟩ := bindE hh
  refine b _ _ _ _ h1 W H σ _ G R fun vs W1 H1 e1 G1 r1 => ?_
  rw [List.append_nil]
  exact ⟨ys, M1, W1, x, M', G1, r1, hh, fun v W2 H2 e2 G2 r2 => k v W2 H2 (e1.trans e2) G2 r2⟩
theorem se_cb {r : List V → Hp → VK → Prop} {h : FN} (p : PN K r h) (b : SA K tA fa) : SE K (tCB r tA) (fCall h fa) := by
  intro γ M x M' hh W H σ Q G R k
  obtain ⟨⟨ys, M1⟩, h1, hh⟩ := bindE hh
  refine b _ _ _ _ h1 W H σ _ G R fun vs W1 H1 e1 G1 r1 => ?_
  exact p _ _ _ _ hh W1 H1 vs Q G1 r1 fun v W2 H2 e2 G2 r2 => k v W2 H2 (e1.trans e2) G2 r2
end
end L2

end

section
set_option Elab.async false
set_option linter.all false
set_option maxRecDepth 100000
set_option maxHeartbeats 4000000
namespace L2
open PySem PySem.Spec PyProof.Rows
section
variable {K : PySem.W.Frag} {ta tb tc : TE} {f g e : EF} {tt uu : TT} {ft gt : TF} {tA : TA} {fa : AF} {t u : TS} {p q : SF} {tg : TG} {hg : GF} {tgs : TGs} {hgs : GsF}
theorem ss_next : SS K tNext sNext := by
  intro γ M o M' hh W H σ D G R k
  cases hh
  exact k W H (.refl _) G σ R
theorem ss_seq (a : SS K t p) (b : SS K u q) : SS K (tSeq t u) (sSeq p q) := by
  intro γ M o M' hh W H σ D G R k
  obtain ⟨⟨o1, M1⟩, h1, hh⟩ := bindE hh
  refine a _ _ _ _ h1 W H σ _ G R fun W1 H1 e1 G1 => ?_
  cases o1 with
  | nx γ1 =>
    intro σ1 R1
    exact b _ _ _ _ hh W1 H1 σ1 D G1 R1 fun W2 H2 e2 G2 => k W2 H2 (e1.trans e2) G2
  | bk γ1 => cases hh; exact k W1 H1 e1 G1
  | ct γ1 => cases hh; exact k W1 H1 e1 G1
  | rt x => cases hh; exact k W1 H1 e1 G1
theorem ss_drop (a : SE K ta f) : SS K (tDrop ta) (sDrop f) := by
  intro γ M o M' hh W H σ D G R k
  obtain ⟨⟨y, M1⟩, h1, hh⟩ := bindE hh
  cases hh
  exact a _ _ _ _ h1 W H σ _ G R fun v W1 H1 e1 G1 r1 => k W1 H1 e1 G1 σ (R.up e1)
theorem ss_ret (a : SE K ta f) : SS K (tRet ta) (sRet f) := by
  intro γ M o M' hh W H σ D G R k
  obtain ⟨⟨y, M1⟩, h1, hh⟩ := bindE hh
  cases hh
  exact a _ _ _ _ h1 W H σ _ G R fun v W1 H1 e1 G1 r1 => k W1 H1 e1 G1 v r1
theorem ss_if (c : STt K tt ft) (a : SS K t p) (b : SS K u q) : SS K (tIfS tt t u) (sIf ft p q) := by
  intro γ M o M' hh W H σ D G R k
  obtain ⟨⟨c1, M1⟩, h1, hh⟩ := bindE hh
  refine c _ _ _ _ h1 W H σ _ G R fun W1 H1 e1 G1 => ?_
  cases c1 with
  | true => rw [if_pos rfl]; rw [if_pos rfl] at hh; exact a _ _ _ _ hh W1 H1 σ D G1 (R.up e1) fun W3 H3 e3 G3 => k W3 H3 (e1.trans e3) G3
  | false => rw [if_neg Bool.false_ne_true]; rw [if_neg Bool.false_ne_true] at hh; exact b _ _ _ _ hh W1 H1 σ D G1 (R.up e1) fun W3 H3 e3 G3 => k W3 H3 (e1.trans e3) G3
theorem ss_asg (a : SE K ta f) (b : SG K tg hg) : SS K (tAsg ta tg) (sAsg f hg) := by
  intro γ M o M' hh W H σ D G R k
  obtain ⟨⟨y, M1⟩, h1, hh⟩ := bindE hh
  obtain ⟨⟨γ1, M2⟩, h2, hh⟩ := bindE hh
  cases hh
  refine a _ _ _ _ h1 W H σ _ G R fun v W1 H1 e1 G1 r1 => ?_
  exact b _ _ _ _ _ h2 W1 H1 σ v _ G1 (R.up e1) r1 fun σ' W2 H2 e2 G2 R2 => k W2 H2 (e1.trans e2) G2 σ' R2
theorem RepS.set {W : Wd} {γ : Ga} {σ : St} {x : CD} {v : V} (R : RepS K W γ σ) (i : Nat) (r : RepV K W x v) : RepS K W (γ.set i (some x)) (σ.set i (some v)) := Paired.set (R := RepO K W) (show RepO K W (some x) (some v) from r) i R
theorem sg_name {i : Nat} : SG K (gName i) (hName i) := by
  intro x γ M γ' M' hh W H σ v Q G R r k
  cases hh
  exact k _ W H (.refl _) G (RepS.set R i r)
theorem sgs_nil : SGs K gNil hNil := by
  intro xs γ M γ' M' hh W H σ vs Q G R r k
  cases r with
  | nil => cases hh; exact ⟨rfl, k σ W H (.refl _) G R⟩
  | cons _ _ => cases hh
theorem sgs_cons (a : SG K tg hg) (b : SGs K tgs hgs) : SGs K (gCons tg tgs) (hCons hg hgs) := by
  intro xs γ M γ' M' hh W H σ vs Q G R r k
  cases r with
  | nil => cases hh
  | @cons x v xs vs r1 r2 =>
    obtain ⟨⟨γ1, M1⟩, h1, hh⟩ := bindE (show (hg x γ M).bind _ = _ from hh)
    refine ⟨v, vs, rfl, a _ _ _ _ _ h1 W H σ v _ G R r1 fun σ1 W1 H1 e1 G1 R1 => ?_⟩
    exact b _ _ _ _ _ hh W1 H1 σ1 vs _ G1 R1 (RepVs.up r2 e1) fun σ2 W2 H2 e2 G2 R2 => k σ2 W2 H2 (e1.trans e2) G2 R2
theorem sg_tup {n : Nat} (b : SGs K tgs hgs) : SG K (gTup K n tgs) (hTup n hgs) := by
  intro x γ M γ' M' hh W H σ v Q G R r k
  cases x with
  | c _ => cases hh
  | d x =>
    cases x with
    | tuple ds =>
      have hh : (if ds.length = n then hgs (ds.map .d) γ M else none) = some (γ', M') := hh
      by_cases hl : ds.length = n
      · rw [if_pos hl] at hh
        obtain ⟨a, vs, rfl, h2, h3⟩ := (show ∃ a vs, v = .ref a ∧ SqT K W.F a vs ∧ RepAll K W.F ds vs from r)
        exact ⟨a, vs, rfl, G.fh.seqT h2, by rw [← h3.length]; exact hl, b _ _ _ _ _ hh W H σ vs Q G R (repVs_of h3) k⟩
      · rw [if_neg hl] at hh; cases hh
    | _ => cases hh
def P3 (K : PySem.W.Frag) (r : V → V → V → Hp → (Hp → Prop) → Prop) (f : F3) : Prop := ∀ x y z M M', f x y z M = some M' → ∀ (W : Wd) (H : Hp) (v u w : V) (Q : Hp → Prop), Good K W M H → RepV K W x v → RepV K W y u → RepV K W z w → (∀ W' H', W.Ext W' → Good K W' M' H' → Q H') → r v u w H Q
theorem sg_sub {r : TSet} {s : F3} (p : P3 K r s) (a : SE K ta f) (b : SE K tb g) : SG K (gSub ta tb r) (hSub f g s) := by
  intro x γ M γ' M' hh W H σ v Q G R rv k
  obtain ⟨⟨o, M1⟩, h1, hh⟩ := bindE hh
  obtain ⟨⟨i, M2⟩, h2, hh⟩ := bindE hh
  obtain ⟨M3, h3, hh⟩ := bindE hh
  cases hh
  refine a _ _ _ _ h1 W H σ _ G R fun v1 W1 H1 e1 G1 r1 => ?_
  refine b _ _ _ _ h2 W1 H1 σ _ G1 (R.up e1) fun v2 W2 H2 e2 G2 r2 => ?_
  exact p _ _ _ _ _ h3 W2 H2 v1 v2 v _ G2 (r1.up e2) r2 (rv.up (e1.trans e2)) fun W3 H3 e3 G3 => k σ W3 H3 ((e1.trans e2).trans e3) G3 (R.up ((e1.trans e2).trans e3))
theorem ss_par {i j : Nat} (b : SA K tA fa) : SS K (tPar i j tA) (sPar i j fa) := by
  intro γ M o M' hh W H σ D G R k
  obtain ⟨⟨ys, M1⟩, h1, hh⟩ := bindE hh
  refine b _ _ _ _ h1 W H σ _ G R fun vs W1 H1 e1 G1 r1 => ?_
  rcases r1 with _ | ⟨a1, _ | ⟨a2, _ | _⟩⟩
  · cases hh
  · cases hh
  · cases hh
    exact ⟨_, _, rfl, k W1 H1 e1 G1 _ (RepS.set (RepS.set (R.up e1) i a1) j a2)⟩
  · cases hh
def GivesW (K : PySem.W.Frag) (J : It) (xs : List CD) (W : Wd) : Prop := ∀ W' M' H', W.Ext W' → Good K W' M' H' →
  (∀ i x, xs[i]? = some x → J.go i H' ∧ ∀ y H'', J.yld i H' y H'' → ∃ W'', W'.Ext W'' ∧ Good K W'' M' H'' ∧ RepV K W'' x y) ∧ J.stop xs.length H'
def SI (K : PySem.W.Frag) (wi : TI) (f : AF) : Prop := ∀ γ M xs M', f γ M = some (xs, M') → ∀ (W : Wd) (H : Hp) (σ : St) (R : It → Hp → Prop), Good K W M H → RepS K W γ σ → (∀ J W' H', W.Ext W' → Good K W' M' H' → GivesW K J xs W' → R J H') → wi σ H R
def fItems (f : EF) : AF := fun γ M => (f γ M).bind fun r => match r.1 with
  | .d x => (itemsD x).bind fun ds => some (ds.map .d, r.2)
  | _ => none
theorem si_seq (a : SE K ta f) : SI K (iSeq K ta) (fItems f) := by
  intro γ M xs M' hh W H σ R G Rs k
  obtain ⟨⟨y, M1⟩, h1, hh⟩ := bindE hh
  cases y with
  | c _ => cases hh
  | d y =>
    obtain ⟨ds, h2, hh⟩ := bindE (show (itemsD y).bind _ = _ from hh)
    cases hh
    refine a _ _ _ _ h1 W H σ _ G Rs fun v W1 H1 e1 G1 r1 => ?_
    obtain ⟨p, vs, rfl, hs, hr⟩ := rep_seq (show Rep K W1.F y v from r1) h2
    refine ⟨p, rfl, ?_⟩
    have item : ∀ (i : Nat) (x : CD) (W2 : Wd), W1.Ext W2 → (ds.map CD.d)[i]? = some x → ∃ u, vs[i]? = some u ∧ RepV K W2 x u := fun i x W2 e2 hx => by
      obtain ⟨u, hu, ru⟩ := Paired.get (repVs_of hr) hx
      exact ⟨u, hu, ru.up e2⟩
    have hlen : (ds.map CD.d).length = vs.length := by rw [List.length_map]; exact hr.length
    rcases hs with hs | hs
    · refine .inl ⟨vs, G1.fh.seq hs, k _ W1 H1 e1 G1 fun W2 M2 H2 e2 G2 => ?_⟩
      have hs2 : SqL K H2 p vs := G2.fh.seq (e2.ff.seq hs)
      refine ⟨fun i x hx => ?_, ?_⟩
      · obtain ⟨u, hu, ru⟩ := item i x W2 e2 hx
        refine ⟨⟨vs, u, hs2, hu⟩, fun y' H'' hy => ⟨W2, .refl _, by rw [hy.1]; exact G2, ?_⟩⟩
        have := hy.2 vs hs2
        rw [hu] at this
        cases this
        exact ru
      · rw [hlen]
        exact ⟨vs, hs2, Nat.le_refl _⟩
    · refine .inr ⟨vs, G1.fh.seqT hs, k _ W1 H1 e1 G1 fun W2 M2 H2 e2 G2 => ?_⟩
      have hs2 : SqT K H2 p vs := G2.fh.seqT (e2.ff.seqT hs)
      refine ⟨fun i x hx => ?_, ?_⟩
      · obtain ⟨u, hu, ru⟩ := item i x W2 e2 hx
        refine ⟨⟨vs, u, hs2, hu⟩, fun y' H'' hy => ⟨W2, .refl _, by rw [hy.1]; exact G2, ?_⟩⟩
        have := hy.2 vs hs2
        rw [hu] at this
        cases this
        exact ru
      · rw [hlen]
        exact ⟨vs, hs2, Nat.le_refl _⟩
def rngD (lo : Int) (n : Nat) : List CD := (List.range n).map fun i => .d (.int (lo + (i : Nat)))
theorem rngD_get {lo : Int} {n i : Nat} {x : CD} (h : (rngD lo n)[i]? = some x) : i < n ∧ x = .d (.int (lo + i)) := by
  unfold rngD at h
  rw [List.getElem?_map] at h
  by_cases hi : i < n
  · rw [List.getElem?_range hi] at h
    exact ⟨hi, (Option.some.inj h).symm⟩
  · rw [List.getElem?_eq_none_iff.mpr (by simpa using hi)] at h
    cases h
def small62 (i : Int) : Bool := decide (-(2 ^ 62) ≤ i) && decide (i < 2 ^ 62)
def fRng1 (f : AF) : AF := fun γ M => (f γ M).bind fun r => match r.1 with
  | [.d (.int j)] => if small62 j = true then some (rngD 0 j.toNat, r.2) else none
  | _ => none
theorem gives_rng {lo : Int} {n : Nat} {W : Wd} : GivesW K (Itr lo n) (rngD lo n) W := fun W' M' H' e G =>
  ⟨fun i x hx => ⟨(rngD_get hx).1, fun y H'' hy => ⟨W', .refl _, by rw [hy.1]; exact G, by rw [(rngD_get hx).2]; exact hy.2⟩⟩, by show n ≤ _; simp [rngD]⟩
theorem small62_of {i : Int} (h : small62 i = true) : -(2 ^ 62) ≤ i ∧ i < 2 ^ 62 := by
  unfold small62 at h
  rw [Bool.and_eq_true] at h
  exact ⟨of_decide_eq_true h.1, of_decide_eq_true h.2⟩
theorem si_rng1 (b : SA K tA fa) : SI K (iRng1 tA) (fRng1 fa) := by
  intro γ M xs M' hh W H σ R G Rs k
  obtain ⟨⟨ys, M1⟩, h1, hh⟩ := bindE hh
  refine b _ _ _ _ h1 W H σ _ G Rs fun vs W1 H1 e1 G1 r1 => ?_
  revert hh
  dsimp only
  split
  · rename_i j
    intro hh
    by_cases hs : small62 j = true
    · rw [if_pos hs] at hh
      cases hh
      cases r1 with
      | cons r r' =>
        cases r'
        exact ⟨j, by rw [show _ = V.int j from r], (small62_of hs).1, (small62_of hs).2, k _ W1 H1 e1 G1 gives_rng⟩
    · rw [if_neg hs] at hh; cases hh
  · intro hh; cases hh
theorem ss_for {wi : TI} (i : SI K wi fa) (a : SG K tg hg) (b : SS K t p) : SS K (tFor wi tg t) (sFor fa hg p) := by
  intro γ M o M' hh W H σ D G R k
  obtain ⟨⟨xs, M1⟩, h1, hh⟩ := bindE hh
  have hh : forF hg p xs γ M1 = some (o, M') := hh
  refine i _ _ _ _ h1 W H σ _ G R fun J W1 H1 e1 G1 gv => ?_
  refine ⟨fun j m σ' H' => ∃ γ' M2 W2, j ≤ xs.length ∧ m = xs.length - j ∧ W1.Ext W2 ∧ Good K W2 M2 H' ∧ RepS K W2 γ' σ' ∧ forF hg p (xs.drop j) γ' M2 = some (o, M'), ⟨_, γ, M1, W1, Nat.zero_le _, rfl, .refl _, G1, R.up e1, hh⟩, ?_⟩
  rintro j m σ' H' ⟨γ', M2, W2, hj, rfl, e2, G2, R2, h2⟩
  obtain ⟨gv1, gv2⟩ := gv W2 M2 H' e2 G2
  by_cases hlt : j < xs.length
  · obtain ⟨go, yl⟩ := gv1 j xs[j] (List.getElem?_eq_getElem hlt)
    rw [List.drop_eq_getElem_cons hlt] at h2
    refine .inr ⟨go, fun σ3 H3 => ∃ γ3 M3 W3, W2.Ext W3 ∧ Good K W3 M3 H3 ∧ RepS K W3 γ3 σ3 ∧ forF hg p (xs.drop (j + 1)) γ3 M3 = some (o, M'), ?_, fun y H3 hy => ?_⟩
    · rintro σ3 H3 ⟨γ3, M3, W3, e3, G3, R3, h3⟩
      exact ⟨_, by omega, γ3, M3, W3, hlt, rfl, e2.trans e3, G3, R3, h3⟩
    · obtain ⟨W8, e8, G8, ry⟩ := yl y H3 hy
      obtain ⟨⟨γ4, M4⟩, h4, h2⟩ := bindE (show (hg xs[j] γ' M2).bind _ = _ from h2)
      obtain ⟨⟨o5, M5⟩, h5, h2⟩ := bindE h2
      refine a _ _ _ _ _ h4 W8 _ σ' y _ G8 (R2.up e8) ry fun σ4 W4 H4 e4 G4 R4 => ?_
      refine b _ _ _ _ h5 W4 H4 σ4 _ G4 R4 fun W5 H5 e5 G5 => ?_
      have e25 := (e8.trans e4).trans e5
      cases o5 with
      | nx γ5 => exact fun σ5 R5 => ⟨γ5, M5, W5, e25, G5, R5, h2⟩
      | ct γ5 => exact fun σ5 R5 => ⟨γ5, M5, W5, e25, G5, R5, h2⟩
      | bk γ5 => cases h2; exact k W5 H5 ((e1.trans e2).trans e25) G5
      | rt x => cases h2; exact k W5 H5 ((e1.trans e2).trans e25) G5
  · have e : j = xs.length := by omega
    subst e
    rw [List.drop_length] at h2
    cases h2
    exact .inl ⟨gv2, k W2 H' (e1.trans e2) G2 σ' R2⟩
theorem ss_while (c : STt K tt ft) (b : SS K t p) : SS K (tWhile tt t) (sWhile ft p) := by
  intro γ M o M' hh W H σ D G R k
  unfold sWhile at hh
  by_cases hex : ∃ n, (whileN ft p n γ M).isSome = true
  · rw [dif_pos hex] at hh
    generalize hex.choose = n at hh
    refine ⟨fun m σ' H' => ∃ γ' M2 W2, W.Ext W2 ∧ Good K W2 M2 H' ∧ RepS K W2 γ' σ' ∧ whileN ft p m γ' M2 = some (o, M'), ⟨n, γ, M, W, .refl _, G, R, hh⟩, ?_⟩
    rintro m σ' H' ⟨γ', M2, W2, e2, G2, R2, h2⟩
    cases m with
    | zero => cases h2
    | succ m =>
      obtain ⟨⟨c3, M3⟩, h3, h2⟩ := bindE (show (ft γ' M2).bind _ = _ from h2)
      refine c _ _ _ _ h3 W2 H' σ' _ G2 R2 fun W3 H3 e3 G3 => ?_
      cases c3 with
      | true =>
        rw [if_pos rfl]; rw [if_pos rfl] at h2
        obtain ⟨⟨o4, M4⟩, h4, h2⟩ := bindE h2
        refine ⟨fun σ4 H4 => ∃ γ4 M4 W4, W2.Ext W4 ∧ Good K W4 M4 H4 ∧ RepS K W4 γ4 σ4 ∧ whileN ft p m γ4 M4 = some (o, M'), ?_, ?_⟩
        · rintro σ4 H4 ⟨γ4, M4, W4, e4, G4, R4, h4⟩
          exact ⟨m, Nat.lt_succ_self _, γ4, M4, W4, e2.trans e4, G4, R4, h4⟩
        · refine b _ _ _ _ h4 W3 H3 σ' _ G3 (R2.up e3) fun W5 H5 e5 G5 => ?_
          have e25 := e3.trans e5
          cases o4 with
          | nx γ5 => exact fun σ5 R5 => ⟨γ5, M4, W5, e25, G5, R5, h2⟩
          | ct γ5 => exact fun σ5 R5 => ⟨γ5, M4, W5, e25, G5, R5, h2⟩
          | bk γ5 => cases h2; exact k W5 H5 (e2.trans e25) G5
          | rt x => cases h2; exact k W5 H5 (e2.trans e25) G5
      | false =>
        rw [if_neg Bool.false_ne_true]; rw [if_neg Bool.false_ne_true] at h2
        cases h2
        exact k W3 H3 (e2.trans e3) G3 σ' (R2.up e3)
  · rw [dif_neg hex] at hh; cases hh
theorem whileN_mono {c : TF} {b : SF} : ∀ {n m : Nat} {γ : Ga} {M : Sto} {r : Out × Sto}, whileN c b n γ M = some r → n ≤ m → whileN c b m γ M = some r
  | 0, _, _, _, _, h, _ => by cases h
  | n + 1, 0, _, _, _, _, h => by omega
  | n + 1, m + 1, γ, M, r, h, hl => by
    obtain ⟨⟨b1, M1⟩, h1, h⟩ := bindE (show (c γ M).bind _ = _ from h)
    show (c γ M).bind _ = _
    rw [h1]
    show (if b1 = true then _ else _) = _
    cases b1 with
    | false => exact h
    | true =>
      rw [if_pos rfl]; rw [if_pos rfl] at h
      obtain ⟨⟨o, M2⟩, h2, h⟩ := bindE h
      rw [h2]
      cases o with
      | nx γ' => exact whileN_mono (n := n) (m := m) h (by omega)
      | ct γ' => exact whileN_mono (n := n) (m := m) h (by omega)
      | bk γ' => exact h
      | rt x => exact h
theorem while_is {c : TF} {b : SF} {n : Nat} {γ : Ga} {M : Sto} {r : Out × Sto} (h : whileN c b n γ M = some r) : sWhile c b γ M = some r := by
  unfold sWhile
  have hex : ∃ n, (whileN c b n γ M).isSome = true := ⟨n, by rw [h]; rfl⟩
  rw [dif_pos hex]
  have hs := hex.choose_spec
  cases q : whileN c b hex.choose γ M with
  | none => rw [q] at hs; cases hs
  | some r' =>
    rcases Nat.le_total n hex.choose with z | z
    · rw [whileN_mono h z] at q; exact q.symm ▸ rfl
    · rw [whileN_mono q z] at h; exact h
theorem capRep {W : Wd} {γ : Ga} {σ : St} (R : RepS K W γ σ) : ∀ cap : List (Option Nat), RepS K W (capG cap γ) (capS cap σ)
  | [] => .nil
  | none :: r => .cons True.intro (capRep R r)
  | some j :: r => by
    refine .cons ?_ (capRep R r)
    show RepO K W ((γ[j]?).join) ((σ[j]?).join)
    cases e : γ[j]? with
    | none =>
      have : σ[j]? = none := by
        have hl := Paired.len R
        exact List.getElem?_eq_none_iff.mpr (by have := List.getElem?_eq_none_iff.mp e; omega)
      rw [this]
      exact True.intro
    | some x =>
      obtain ⟨y, hy, r'⟩ := Paired.get R e
      rw [hy]
      exact r'
theorem lcF_len {g : GF} {c : TF} {e : EF} : ∀ {xs : List CD} {γ : Ga} {M : Sto} {ys : List CD} {M' : Sto}, lcF g c e xs γ M = some (ys, M') → ys.length ≤ xs.length
  | [], _, _, _, _, h => by cases h; exact Nat.zero_le _
  | x :: xs, γ, M, ys, M', h => by
    obtain ⟨⟨γ1, M1⟩, h1, h⟩ := bindE (show (g x γ M).bind _ = _ from h)
    obtain ⟨⟨b, M2⟩, h2, h⟩ := bindE h
    cases b with
    | true =>
      rw [if_pos rfl] at h
      obtain ⟨⟨y, M3⟩, h3, h⟩ := bindE h
      obtain ⟨⟨zs, M4⟩, h4, h⟩ := bindE h
      cases h
      have := lcF_len h4
      simp only [List.length_cons]
      omega
    | false =>
      rw [if_neg Bool.false_ne_true] at h
      have := lcF_len h
      simp only [List.length_cons]
      omega
theorem lc_all {wi : TI} {cap : List (Option Nat)} {te : TE} {fe : EF} (i : SI K wi fa) (a : SG K tg hg) (c : STt K tt ft) (b : SE K te fe) {γ : Ga} {M : Sto} {xs : List CD} {M' : Sto} (hh : lcRun cap fa hg ft fe γ M = some (xs, M'))
    {W : Wd} {H : Hp} {σ : St} {Q : VK} (G : Good K W M H) (R : RepS K W γ σ) (k : ∀ vs W' H', W.Ext W' → Good K W' M' H' → RepVs K W' xs vs → ∀ p, H' p = none → Q (.ref p) (upd H' p (.lst vs))) : tLc cap wi tg tt te σ H Q := by
  obtain ⟨⟨ys, M1⟩, h1, hh⟩ := bindE hh
  have hh : (if ys.length ≤ sizeLine then lcF hg ft fe ys (capG cap γ) M1 else none) = some (xs, M') := hh
  by_cases hl : ys.length ≤ sizeLine
  · rw [if_pos hl] at hh
    refine i _ _ _ _ h1 W H σ _ G R fun J W1 H1 e1 G1 gv => ?_
    refine ⟨fun j m acc σ' H' => ∃ γ' M2 W2 pre suf, j ≤ ys.length ∧ m = ys.length - j ∧ acc.length ≤ j ∧ W1.Ext W2 ∧ Good K W2 M2 H' ∧ RepS K W2 γ' σ' ∧ RepVs K W2 pre acc ∧ pre ++ suf = xs ∧ lcF hg ft fe (ys.drop j) γ' M2 = some (suf, M'),
      ⟨_, capG cap γ, M1, W1, [], xs, Nat.zero_le _, rfl, Nat.zero_le _, .refl _, G1, capRep (R.up e1) cap, .nil, rfl, hh⟩, ?_⟩
    rintro j m acc σ' H' ⟨γ', M2, W2, pre, suf, hj, rfl, hacc, e2, G2, R2, rp, hx, h2⟩
    obtain ⟨gv1, gv2⟩ := gv W2 M2 H' e2 G2
    by_cases hlt : j < ys.length
    · obtain ⟨go, yl⟩ := gv1 j ys[j] (List.getElem?_eq_getElem hlt)
      rw [List.drop_eq_getElem_cons hlt] at h2
      refine .inr ⟨go, by omega, fun acc3 σ3 H3 => ∃ γ3 M3 W3 pre3 suf3, acc3.length ≤ j + 1 ∧ W2.Ext W3 ∧ Good K W3 M3 H3 ∧ RepS K W3 γ3 σ3 ∧ RepVs K W3 pre3 acc3 ∧ pre3 ++ suf3 = xs ∧ lcF hg ft fe (ys.drop (j + 1)) γ3 M3 = some (suf3, M'), ?_, fun y H3 hy => ?_⟩
      · rintro acc3 σ3 H3 ⟨γ3, M3, W3, pre3, suf3, hl3, e3, G3, R3, rp3, hx3, h3⟩
        exact ⟨_, by omega, γ3, M3, W3, pre3, suf3, hlt, rfl, hl3, e2.trans e3, G3, R3, rp3, hx3, h3⟩
      · obtain ⟨W8, e8, G8, ry⟩ := yl y H3 hy
        obtain ⟨⟨γ4, M4⟩, h4, h2⟩ := bindE (show (hg ys[j] γ' M2).bind _ = _ from h2)
        obtain ⟨⟨b5, M5⟩, h5, h2⟩ := bindE h2
        refine a _ _ _ _ _ h4 W8 _ σ' y _ G8 (R2.up e8) ry fun σ4 W4 H4 e4 G4 R4 => ?_
        refine c _ _ _ _ h5 W4 H4 σ4 _ G4 R4 fun W5 H5 e5 G5 => ?_
        have e25 := (e8.trans e4).trans e5
        cases b5 with
        | true =>
          rw [if_pos rfl] at h2
          obtain ⟨⟨z, M6⟩, h6, h2⟩ := bindE h2
          obtain ⟨⟨zs, M7⟩, h7, h2⟩ := bindE h2
          cases h2
          refine .inl ⟨rfl, b _ _ _ _ h6 W5 H5 σ4 _ G5 (R4.up e5) fun v W6 H6 e6 G6 r6 => ?_⟩
          refine ⟨γ4, M6, W6, pre ++ [z], zs, by rw [List.length_append]; simp only [List.length_singleton]; omega, e25.trans e6, G6, R4.up (e5.trans e6), Paired.app (RepVs.up rp (e25.trans e6)) (.cons r6 .nil), by rw [← hx, List.append_assoc]; rfl, h7⟩
        | false =>
          rw [if_neg Bool.false_ne_true] at h2
          exact .inr ⟨rfl, γ4, M5, W5, pre, suf, by omega, e25, G5, R4.up e5, RepVs.up rp e25, hx, h2⟩
    · have e : j = ys.length := by omega
      subst e
      rw [List.drop_length] at h2
      cases h2
      rw [List.append_nil] at hx
      subst hx
      exact .inl ⟨gv2, k acc W2 H' (e1.trans e2) G2 rp⟩
  · rw [if_neg hl] at hh; cases hh
theorem lcRun_len {cap : List (Option Nat)} {fa : AF} {hg : GF} {ft : TF} {fe : EF} {γ : Ga} {M : Sto} {xs : List CD} {M' : Sto} (hh : lcRun cap fa hg ft fe γ M = some (xs, M')) : xs.length ≤ sizeLine := by
  obtain ⟨⟨ys, M1⟩, h1, hh⟩ := bindE hh
  have hh : (if ys.length ≤ sizeLine then lcF hg ft fe ys (capG cap γ) M1 else none) = some (xs, M') := hh
  by_cases hl : ys.length ≤ sizeLine
  · rw [if_pos hl] at hh
    exact Nat.le_trans (lcF_len hh) hl
  · rw [if_neg hl] at hh; cases hh
theorem se_lc {wi : TI} {cap : List (Option Nat)} {te : TE} {fe : EF} (i : SI K wi fa) (a : SG K tg hg) (c : STt K tt ft) (b : SE K te fe) : SE K (tLc cap wi tg tt te) (fLc cap fa hg ft fe) := by
  intro γ M x M' hh W H σ Q G R k
  obtain ⟨⟨ys, M1⟩, h1, hh⟩ := bindE hh
  obtain ⟨ds, h2, hh⟩ := bindE hh
  by_cases hl : ds.length ≤ sizeLine
  · rw [if_pos hl] at hh
    cases hh
    refine lc_all i a c b h1 G R fun vs W1 H1 e1 G1 r1 p hp => ?_
    obtain ⟨e2, G2⟩ := G1.lay (o := .lst vs) hp
    exact k _ _ _ (e1.trans e2) G2 ⟨p, vs, rfl, SqL.of upd_same, RepAll.same e2.ff _ _ (repAll_of h2 r1)⟩
  · rw [if_neg hl] at hh; cases hh
theorem se_lcN {wi : TI} {cap : List (Option Nat)} {te : TE} {fe : EF} (i : SI K wi fa) (a : SG K tg hg) (c : STt K tt ft) (b : SE K te fe) : SE K (tLc cap wi tg tt te) (fLcN cap fa hg ft fe) := by
  intro γ M x M' hh W H σ Q G R k
  obtain ⟨⟨ys, M1⟩, h1, hh⟩ := bindE hh
  have hh : (if ys.length ≤ sizeLine then some (CD.c M1.length, M1 ++ [Cell.lst ys]) else none) = some (x, M') := hh
  rw [if_pos (lcRun_len h1)] at hh
  cases hh
  refine lc_all i a c b h1 G R fun vs W1 H1 e1 G1 r1 p hp => ?_
  exact k _ _ _ (e1.trans (W1.ext_more p)) (G1.new hp (c := .lst ys) (o := .lst vs) r1) G1.newV
theorem st_yes : STt K tYes gYes := by
  intro γ M x M' hh W H σ Q G R k
  cases hh
  exact k W H (.refl _) G
theorem RepVs.some {W : Wd} : ∀ {xs : List CD} {vs : List V}, RepVs K W xs vs → RepS K W (xs.map some) (vs.map some)
  | _, _, .nil => .nil
  | _, _, .cons r t => .cons r (RepVs.some t)
theorem rep_none {W : Wd} : ∀ n : Nat, RepS K W (List.replicate n none) (List.replicate n none)
  | 0 => .nil
  | n + 1 => .cons True.intro (rep_none n)
theorem Def.okM {P : Program} {w : World} {mg : Str → Option Value} {base : Heap} {x : Str} {st : Stmt} {N ps : List Str} {k : Nat} {b : SF} (D : Def K mg x st) (S : FnScope N ps (defScope st))
    (hb : ∀ (kV doc pm : Value) (an : Option Addr) (cdv ct : Value) (us : List Value), us.length = ps.length → bindArgs (PySem.W.fnOf x x (defArgs st) (defBody st) (defScope st) .none kV doc pm an cdv ct) ⟨us, []⟩ = pure (ps.zip us))
    (hbody : ∀ (f : Addr) (cdv : Value) (A : Around) (outer : List Env) (s : Shared) (H : Hp) (E : XK), Room k (A.deeper (envOfC x (defScope st) s.heap.objs.size f cdv)) →
      ∃ t, PSs (cxOf CX0 P w K mg base N x (defScope st) f cdv A outer s H E).nox (defBody st) t ∧ SS K t b) : Callee P w K mg base (k + 1) x ps (spM K (fnF ps.length N.length b)) := by
  have len : ∀ vs H Q E, spM K (fnF ps.length N.length b) vs H Q E → vs.length = ps.length := fun vs H Q E h => by
    obtain ⟨xs, M, W, y, M', G, R, hf, _⟩ := h
    by_cases hl : xs.length = ps.length
    · rw [← Paired.len R]; exact hl
    · unfold fnF at hf
      rw [if_neg hl] at hf; cases hf
  refine D.ok S hb len fun f cdv A outer s H vs Q E hr h => ?_
  obtain ⟨t, hP, hS⟩ := hbody f cdv A outer s H E hr
  refine ⟨t, hP, ?_⟩
  obtain ⟨xs, M, W, y, M', G, R, hf, k⟩ := h
  by_cases hl : xs.length = ps.length
  · unfold fnF at hf
    rw [if_pos hl] at hf
    obtain ⟨⟨o, M1⟩, h1, hf⟩ := bindE hf
    have hR : RepS K W (xs.map some ++ List.replicate (N.length - xs.length) none) (start N vs) := by
      unfold start
      rw [← Paired.len R]
      exact Paired.app (RepVs.some R) (rep_none _)
    refine hS _ _ _ _ h1 W H _ _ G hR fun W1 H1 e1 G1 => ?_
    cases o with
    | rt x => cases hf; exact fun v r => k v W1 H1 e1 G1 r
    | nx γ => cases hf; exact fun σ r => k .non W1 H1 e1 G1 rfl
    | bk γ => cases hf
    | ct γ => cases hf
  · unfold fnF at hf
    rw [if_neg hl] at hf; cases hf
end
end L2

end

section
set_option Elab.async false
set_option linter.all false
set_option maxRecDepth 100000
set_option maxHeartbeats 4000000
namespace L2
open PySem PySem.Spec PyProof.Rows
def orF2 (h h' : F2) : F2 := fun x y M => match h x y M with
  | some r => some r
  | none => h' x y M
def pI (g : Int → Int → Option PyData) : F2 := fun x y M => match x, y with
  | .d (.int i), .d (.int j) => (g i j).bind fun z => some (.d z, M)
  | _, _ => none
theorem pI_of {g : Int → Int → Option PyData} {x y : CD} {M : Sto} {z : CD} {M' : Sto} (h : pI g x y M = some (z, M')) : ∃ i j w, x = .d (.int i) ∧ y = .d (.int j) ∧ g i j = some w ∧ z = .d w ∧ M' = M := by
  unfold pI at h
  split at h
  · rename_i i j
    obtain ⟨w, h1, h⟩ := bindE h
    cases h
    exact ⟨i, j, w, rfl, rfl, h1, rfl, rfl⟩
  · cases h
section
variable {X : Cx} {K : PySem.W.Frag}
theorem p2_I0 {g : Int → Int → Int} : P2 K (rI0 fun i j => .int (g i j)) (pI fun i j => some (.int (g i j))) := by
  intro x y M z M' h W H v u Q G rx ry k
  obtain ⟨i, j, w, rfl, rfl, hw, rfl, rfl⟩ := pI_of h
  cases hw
  exact ⟨i, j, rx, ry, k _ W H (.refl _) G rfl⟩
theorem p2_B0 {g : Int → Int → Bool} : P2 K (rI0 fun i j => .bl (g i j)) (pI fun i j => some (.bool (g i j))) := by
  intro x y M z M' h W H v u Q G rx ry k
  obtain ⟨i, j, w, rfl, rfl, hw, rfl, rfl⟩ := pI_of h
  cases hw
  exact ⟨i, j, rx, ry, k _ W H (.refl _) G rfl⟩
def ifS (c : Bool) (x : PyData) : Option PyData := if c = true then some x else none
theorem ifS_of {c : Bool} {x y : PyData} (h : ifS c x = some y) : c = true ∧ y = x := by
  unfold ifS at h
  cases c with
  | true => rw [if_pos rfl] at h; cases h; exact ⟨rfl, rfl⟩
  | false => rw [if_neg Bool.false_ne_true] at h; cases h
theorem p2_I {C : Int → Int → Prop} {c : Int → Int → Bool} {g : Int → Int → Int} (hc : ∀ i j, c i j = true → C i j) : P2 K (rI C fun i j => .int (g i j)) (pI fun i j => ifS (c i j) (.int (g i j))) := by
  intro x y M z M' h W H v u Q G rx ry k
  obtain ⟨i, j, w, rfl, rfl, hw, rfl, rfl⟩ := pI_of h
  obtain ⟨h1, rfl⟩ := ifS_of hw
  exact ⟨i, j, rx, ry, hc i j h1, k _ W H (.refl _) G rfl⟩
def addI : F2 := pI fun i j => some (.int (i + j))
def subI : F2 := pI fun i j => some (.int (i - j))
def mulOk (i j : Int) : Bool := decide (i.natAbs < 2 ^ 64) || decide (j.natAbs < 2 ^ 64) || (decide (i.natAbs < wideN) && decide (j.natAbs < wideN))
def mulI : F2 := pI fun i j => ifS (mulOk i j) (.int (i * j))
def divOk (_ j : Int) : Bool := decide (0 < j) && decide (j.natAbs < wideN)
def fdivI : F2 := pI fun i j => ifS (divOk i j) (.int (i / j))
def modOk (_ j : Int) : Bool := decide (0 < j)
def modI : F2 := pI fun i j => ifS (modOk i j) (.int (i % j))
def powOk (i j : Int) : Bool := decide (0 ≤ j) && decide (j ≤ 1000000) && decide (i.natAbs < 2 ^ 64)
def powI : F2 := pI fun i j => ifS (powOk i j) (.int (i ^ j.toNat))
theorem mulOk_of {i j : Int} (h : mulOk i j = true) : CMulA i j := by
  unfold mulOk at h
  simp only [Bool.or_eq_true, Bool.and_eq_true, decide_eq_true_eq] at h
  rcases h with (h | h) | h
  · exact .inl (.inl ⟨by omega, by omega⟩)
  · exact .inl (.inr ⟨by omega, by omega⟩)
  · exact .inr h
def ltI : F2 := pI fun i j => some (.bool (decide (i < j)))
def leI : F2 := pI fun i j => some (.bool (decide (i ≤ j)))
def gtI : F2 := pI fun i j => some (.bool (decide (j < i)))
def geI : F2 := pI fun i j => some (.bool (decide (j ≤ i)))
def eqD (neg : Bool) : F2 := fun x y M => match x, y with
  | .d a, .d b => if (SeqAt.shaped a && SeqAt.shaped b) = true then some (.d (.bool (if neg then !PyData.eqv a b else PyData.eqv a b)), M) else none
  | _, _ => none
theorem p2_eq {neg : Bool} : P2 K (rEqD K neg) (eqD neg) := by
  intro x y M z M' h W H v u Q G rx ry k
  unfold eqD at h
  split at h
  · rename_i a b
    by_cases hs : (SeqAt.shaped a && SeqAt.shaped b) = true
    · rw [if_pos hs] at h
      cases h
      rw [Bool.and_eq_true] at hs
      exact ⟨a, b, Rep.same G.fh _ _ rx, Rep.same G.fh _ _ ry, hs.1, hs.2, k _ W H (.refl _) G rfl⟩
    · rw [if_neg hs] at h; cases h
  · cases h
theorem RepAll.nth {H : Hp} {ds : List PyData} {vs : List V} {i : Nat} {d : PyData} (h : RepAll K H ds vs) (e : ds[i]? = some d) : ∃ v, vs[i]? = some v ∧ Rep K H d v := by
  have hlt : i < vs.length := by rw [← h.length]; exact (List.getElem?_eq_some_iff.mp e).1
  have hv : vs[i]? = some vs[i] := List.getElem?_eq_getElem hlt
  obtain ⟨d', hd', r⟩ := h.get hv
  rw [e] at hd'
  cases hd'
  exact ⟨_, hv, r⟩
theorem atI_of {α : Type} {xs : List α} {i : Int} {x : α} (h : atI xs i = some x) : ∃ j, ixN xs.length i = some j ∧ xs[j]? = some x := by
  unfold atI at h
  exact bindE h
theorem atI_mk {α : Type} {xs : List α} {i : Int} {j : Nat} {x : α} (h : ixN xs.length i = some j) (e : xs[j]? = some x) : atI xs i = some x := by
  unfold atI
  rw [h]
  exact e
def ixF : F2 := fun x y M => match x, y with
  | .d a, .d (.int n) => (itemsD a).bind fun ds => (atI ds n).bind fun e => some (.d e, M)
  | .c i, .d (.int n) => match M[i]? with
    | some (.lst xs) => (atI xs n).bind fun e => some (e, M)
    | _ => none
  | _, _ => none
theorem Good.lstAt {W : Wd} {M : Sto} {H : Hp} {i : Nat} {xs : List CD} (G : Good K W M H) (h : M[i]? = some (.lst xs)) : ∃ vs, H (W.α i) = some (.lst vs) ∧ RepVs K W xs vs := by
  obtain ⟨_, o, h2, h3⟩ := G.cs i _ h (by intro z; cases z)
  cases o with
  | lst vs => exact ⟨vs, h2, h3⟩
  | _ => exact False.elim h3
theorem p2_ix : P2 K (rIx K) ixF := by
  intro x y M z M' h W H v u Q G rx ry k
  unfold ixF at h
  split at h
  · rename_i a n
    obtain ⟨ds, h1, h⟩ := bindE h
    obtain ⟨e, h2, h⟩ := bindE h
    cases h
    obtain ⟨p, vs, rfl, hq, hr⟩ := rep_seq (Rep.same G.fh _ _ rx) h1
    obtain ⟨j, hj, he⟩ := atI_of h2
    obtain ⟨w, hw, rw'⟩ := hr.nth he
    have hlen := hr.length
    have hat : atI vs n = some w := atI_mk (by rw [← hlen]; exact hj) hw
    obtain ⟨p', vs', e', hq', hr'⟩ := rep_seq (show Rep K W.F a (.ref p) from rx) h1
    cases e'
    have same : ∀ w', vs'[j]? = some w' → Rep K W.F e w' := fun w' hw' => by
      obtain ⟨w2, h3, h4⟩ := hr'.nth he
      rw [hw'] at h3
      cases h3
      exact h4
    obtain ⟨w', hw', r'⟩ := hr'.nth he
    have hat' : atI vs' n = some w' := atI_mk (by rw [← hr'.length]; exact hj) hw'
    rcases hq' with hq' | hq'
    · exact .inl ⟨p, vs', n, w', rfl, ry, G.fh.seq hq', hat', k _ W H (.refl _) G r'⟩
    · exact .inr (.inl ⟨p, vs', n, w', rfl, ry, G.fh.seqT hq', hat', k _ W H (.refl _) G r'⟩)
  · rename_i i n
    split at h
    · rename_i xs hx
      obtain ⟨e, h2, h⟩ := bindE h
      cases h
      obtain ⟨vs, hv, hr⟩ := G.lstAt hx
      obtain ⟨j, hj, he⟩ := atI_of h2
      obtain ⟨w, hw, r'⟩ := Paired.get hr he
      have hat : atI vs n = some w := atI_mk (by rw [← Paired.len hr]; exact hj) hw
      rw [show v = .ref (W.α i) from rx.2]
      exact .inl ⟨_, vs, n, w, rfl, ry, SqL.of hv, hat, k _ W H (.refl _) G r'⟩
    · cases h
  · cases h
def lenF : FN := fun xs M => match xs with
  | [.d a] => (itemsD a).bind fun ds => some (.d (.int ds.length), M)
  | [.c i] => match M[i]? with
    | some (.lst ys) => some (.d (.int ys.length), M)
    | _ => none
  | _ => none
theorem pn_len : PN K (fun xs H Q => ∃ p ys, xs = [.ref p] ∧ (SqL K H p ys ∨ SqT K H p ys) ∧ Q (.int ys.length) H) lenF := by
  intro xs M z M' h W H vs Q G r k
  unfold lenF at h
  split at h
  · rename_i a
    obtain ⟨ds, h1, h⟩ := bindE h
    cases h
    rcases r with _ | ⟨r1, _ | _⟩
    obtain ⟨p, us, rfl, hq, hr⟩ := rep_seq (Rep.same G.fh _ _ r1) h1
    refine ⟨p, us, rfl, hq, ?_⟩
    rw [← hr.length]
    exact k _ W H (.refl _) G rfl
  · rename_i i
    split at h
    · rename_i ys hy
      cases h
      rcases r with _ | ⟨r1, _ | _⟩
      obtain ⟨us, hv, hr⟩ := G.lstAt hy
      rw [r1.2]
      refine ⟨_, us, rfl, .inl (SqL.of hv), ?_⟩
      rw [← Paired.len hr]
      exact k _ W H (.refl _) G rfl
    · cases h
  · cases h
def tupleF : FN := fun xs M => match xs with
  | [.d (.list ds)] => some (.d (.tuple ds), M)
  | [.d (.tuple ds)] => some (.d (.tuple ds), M)
  | [.c i] => match M[i]? with
    | some (.lst ys) => (allD ys).bind fun ds => some (.d (.tuple ds), M)
    | _ => none
  | _ => none
theorem pn_tuple : PN K (fun xs H Q => ∃ p ys, xs = [.ref p] ∧ ((SqL K H p ys ∧ ∀ l, H l = none → Q (.ref l) (upd H l (.tup ys))) ∨ (SqT K H p ys ∧ Q (.ref p) H))) tupleF := by
  intro xs M z M' h W H vs Q G r k
  unfold tupleF at h
  split at h
  · rename_i ds
    cases h
    rcases r with _ | ⟨r1, _ | _⟩
    obtain ⟨p, us, rfl, hq, hr⟩ := (show ∃ a us, _ = V.ref a ∧ SqL K W.F a us ∧ RepAll K W.F ds us from r1)
    refine ⟨p, us, rfl, .inl ⟨G.fh.seq hq, fun l hl => ?_⟩⟩
    obtain ⟨e2, G2⟩ := G.lay (o := .tup us) hl
    exact k _ _ _ e2 G2 ⟨l, us, rfl, SqT.of upd_same, RepAll.same e2.ff _ _ hr⟩
  · rename_i ds
    cases h
    rcases r with _ | ⟨r1, _ | _⟩
    obtain ⟨p, us, rfl, hq, hr⟩ := (show ∃ a us, _ = V.ref a ∧ SqT K W.F a us ∧ RepAll K W.F ds us from r1)
    exact ⟨p, us, rfl, .inr ⟨G.fh.seqT hq, k _ W H (.refl _) G ⟨p, us, rfl, hq, hr⟩⟩⟩
  · rename_i i
    split at h
    · rename_i ys hy
      obtain ⟨ds, h1, h⟩ := bindE h
      cases h
      rcases r with _ | ⟨r1, _ | _⟩
      obtain ⟨us, hv, hr⟩ := G.lstAt hy
      rw [r1.2]
      refine ⟨_, us, rfl, .inl ⟨SqL.of hv, fun l hl => ?_⟩⟩
      obtain ⟨e2, G2⟩ := G.lay (o := .tup us) hl
      exact k _ _ _ e2 G2 ⟨l, us, rfl, SqT.of upd_same, RepAll.same e2.ff _ _ (repAll_of h1 hr)⟩
    · cases h
  · cases h
def truF (M : Sto) : CD → Option Bool
  | .d .none => some false
  | .d (.bool b) => some b
  | .d (.int i) => some (i != 0)
  | .d (.list ds) => some (!ds.isEmpty)
  | .d (.tuple ds) => some (!ds.isEmpty)
  | .c i => match M[i]? with
    | some (.lst xs) => some (!xs.isEmpty)
    | some (.dk kvs) => some (!kvs.isEmpty)
    | _ => none
  | _ => none
def gTru (f : EF) : TF := fun γ M => (f γ M).bind fun r => (truF r.2 r.1).bind fun b => some (b, r.2)
theorem isEmpty_len {α β : Type} {xs : List α} {ys : List β} (h : xs.length = ys.length) : xs.isEmpty = ys.isEmpty := by
  cases xs <;> cases ys <;> simp at h ⊢
theorem st_tru {ta : TE} {f : EF} (a : SE K ta f) : STt K (fun σ H Q => ta σ H fun x H' => ∃ k, TruV K x H' k ∧ Q k H') (gTru f) := by
  intro γ M b M' hh W H σ Q G R k
  obtain ⟨⟨y, M1⟩, h1, hh⟩ := bindE hh
  obtain ⟨b1, h2, hh⟩ := bindE hh
  cases hh
  refine a _ _ _ _ h1 W H σ _ G R fun v W1 H1 e1 G1 r1 => ⟨_, ?_, k W1 H1 e1 G1⟩
  cases y with
  | d y =>
    cases y with
    | none => cases h2; rw [show v = .non from r1]; rfl
    | bool c => cases h2; rw [show v = .bl _ from r1]; rfl
    | int i => cases h2; rw [show v = .int _ from r1]; rfl
    | str x => cases h2
    | list ds =>
      cases h2
      obtain ⟨p, us, rfl, hq, hr⟩ := (show ∃ a us, _ = V.ref a ∧ SqL K W1.F a us ∧ RepAll K W1.F ds us from r1)
      exact .inl ⟨us, G1.fh.seq hq, by rw [isEmpty_len hr.length]⟩
    | tuple ds =>
      cases h2
      obtain ⟨p, us, rfl, hq, hr⟩ := (show ∃ a us, _ = V.ref a ∧ SqT K W1.F a us ∧ RepAll K W1.F ds us from r1)
      exact .inr (.inl ⟨us, G1.fh.seqT hq, by rw [isEmpty_len hr.length]⟩)
    | dict kvs => cases h2
  | c i =>
    rw [r1.2]
    unfold truF at h2
    dsimp only at h2
    split at h2
    · rename_i xs hx
      cases h2
      obtain ⟨us, hv, hr⟩ := G1.lstAt hx
      exact .inl ⟨us, SqL.of hv, by rw [isEmpty_len (Paired.len hr)]⟩
    · rename_i kvs hx
      cases h2
      obtain ⟨_, o, g2, g3⟩ := G1.cs i _ hx (by intro z; cases z)
      cases o with
      | dK us => exact .inr (.inr ⟨us, g2, by rw [isEmpty_len (Paired.len g3)]⟩)
      | _ => exact False.elim g3
    · cases h2
def setF : F3 := fun x y z M => match x, y with
  | .c i, .d (.int k) => match M[i]? with
    | some (.lst xs) => (ixN xs.length k).bind fun j => some (M.set i (.lst (xs.set j z)))
    | _ => none
  | _, _ => none
theorem p3_set : P3 K rSetL setF := by
  intro x y z M M' h W H v u w Q G rx ry rz k
  unfold setF at h
  split at h
  · rename_i i n
    split at h
    · rename_i xs hx
      obtain ⟨j, h1, h⟩ := bindE h
      cases h
      obtain ⟨us, hv, hr⟩ := G.lstAt hx
      refine ⟨W.α i, us, n, j, rx.2, ry, hv, by rw [← Paired.len hr]; exact h1, ?_⟩
      exact k W _ (.refl _) (G.set hx (by intro q; cases q) (c' := .lst (xs.set j z)) (show RepVs K W _ _ from Paired.set (R := RepV K W) rz j hr))
    · cases h
  · cases h
end
end L2

end

section
set_option Elab.async false
set_option linter.all false
set_option maxRecDepth 100000
set_option maxHeartbeats 4000000
namespace L2
open PySem PySem.Spec PyProof.Rows
section
variable {X : Cx} {K : PySem.W.Frag}
def rCatS (K : PySem.W.Frag) : R2 := fun x y H Q => ∃ l b xs zs, x = .ref l ∧ y = .ref b ∧ SqL K H l xs ∧ SqL K H b zs ∧ xs.length + zs.length ≤ sizeLine ∧ ∀ p, H p = none → Q (.ref p) (upd H p (.lst (xs ++ zs)))
theorem op_catS : OpR X (binaryOp .Add) (rCatS X.K) := by
  intro pins s σ H x y v u Q I rx ry h
  obtain ⟨l, b, xs, zs, rfl, rfl, hH, hB, hz, q⟩ := h
  cases rx
  cases ry
  obtain ⟨its, r, ⟨⟨cls, dd, data, sl⟩, n, ho, hc, hdd, hd⟩, _⟩ := I.list hH
  obtain ⟨its2, r2, ⟨⟨cls2, dd2, data2, sl2⟩, n2, ho2, hc2, hdd2, hd2⟩, _⟩ := I.list hB
  simp only at hc hd hc2 hd2
  subst hc hd hc2 hd2
  have e1 := r.length
  have e2 := r2.length
  refine concat_meets ⟨_, ho, rfl⟩ ⟨_, ho2, rfl⟩ noFill_list_add seq_list_add PySem.F.slot_list_add PySem.F.entry_list_add (PySem.F.args_list_add_2 _ _) (list_addW l b its.toArray its2.toArray n n2 dd dd2 sl sl2 (by rw [List.size_toArray, List.size_toArray]; omega)) ⟨ho, ho2, ?_⟩
  have ea : its.toArray ++ its2.toArray = (its ++ its2).toArray := by simp
  rw [ea]
  exact ⟨.ref _, _, I.lnew (t' := s.toks) (r.append r2) (by rw [List.length_append]; omega), rfl, q _ I.fresh⟩
def lstOf (M : Sto) : CD → Option (List CD)
  | .d (.list ds) => some (ds.map .d)
  | .c i => match M[i]? with
    | some (.lst xs) => some xs
    | _ => none
  | _ => none
theorem lstOf_rep {W : Wd} {M : Sto} {H : Hp} {x : CD} {xs : List CD} {v : V} (G : Good K W M H) (h : lstOf M x = some xs) (r : RepV K W x v) : ∃ p vs, v = .ref p ∧ SqL K H p vs ∧ RepVs K W xs vs := by
  unfold lstOf at h
  split at h
  · rename_i ds
    cases h
    obtain ⟨p, us, rfl, hq, hr⟩ := (show ∃ a us, _ = V.ref a ∧ SqL K W.F a us ∧ RepAll K W.F ds us from r)
    exact ⟨p, us, rfl, G.fh.seq hq, repVs_of hr⟩
  · rename_i i
    split at h
    · rename_i ys hy
      cases h
      obtain ⟨us, hv, hr⟩ := G.lstAt hy
      exact ⟨_, us, r.2, SqL.of hv, hr⟩
    · cases h
  · cases h
def catL : F2 := fun x y M => (lstOf M x).bind fun xs => (lstOf M y).bind fun ys => (allD (xs ++ ys)).bind fun ds => if ds.length ≤ sizeLine then some (.d (.list ds), M) else none
theorem p2_catL : P2 K (rCatS K) catL := by
  intro x y M z M' h W H v u Q G rx ry k
  obtain ⟨xs, h1, h⟩ := bindE h
  obtain ⟨ys, h2, h⟩ := bindE h
  obtain ⟨ds, h3, h⟩ := bindE h
  by_cases hl : ds.length ≤ sizeLine
  · rw [if_pos hl] at h
    cases h
    obtain ⟨p, vs, rfl, hp, hr⟩ := lstOf_rep G h1 rx
    obtain ⟨q, us, rfl, hq, hs⟩ := lstOf_rep G h2 ry
    have el := allD_len h3
    rw [List.length_append] at el
    refine ⟨p, q, vs, us, rfl, rfl, hp, hq, by rw [← Paired.len hr, ← Paired.len hs]; omega, fun l hl => ?_⟩
    obtain ⟨e2, G2⟩ := G.lay (o := .lst (vs ++ us)) hl
    exact k _ _ _ e2 G2 ⟨l, _, rfl, SqL.of upd_same, RepAll.same e2.ff _ _ (repAll_of h3 (Paired.app hr hs))⟩
  · rw [if_neg hl] at h; cases h
def catT : F2 := fun x y M => match x, y with
  | .d (.tuple xs), .d (.tuple ys) => if xs ≠ [] ∧ xs.length + ys.length ≤ sizeLine then some (.d (.tuple (xs ++ ys)), M) else none
  | _, _ => none
theorem RepAll.nil_iff {H : Hp} {ds : List PyData} {vs : List V} (r : RepAll K H ds vs) : vs = [] ↔ ds = [] := by
  have := r.length
  constructor <;> intro h <;> subst h <;> simp at this
  · exact this
  · exact List.eq_nil_of_length_eq_zero this.symm
theorem p2_catT : P2 K (rCatT K) catT := by
  intro x y M z M' h W H v u Q G rx ry k
  unfold catT at h
  split at h
  · rename_i xs ys
    by_cases hc : xs ≠ [] ∧ xs.length + ys.length ≤ sizeLine
    · rw [if_pos hc] at h
      cases h
      obtain ⟨p, vs, rfl, hp, hr⟩ := (show ∃ a us, v = V.ref a ∧ SqT K W.F a us ∧ RepAll K W.F xs us from rx)
      obtain ⟨q, us, rfl, hq, hs⟩ := (show ∃ a us, u = V.ref a ∧ SqT K W.F a us ∧ RepAll K W.F ys us from ry)
      refine ⟨p, q, vs, us, rfl, rfl, G.fh.seqT hp, G.fh.seqT hq, fun z => hc.1 (hr.nil_iff.mp z), by rw [← hr.length, ← hs.length]; exact hc.2, fun z => ?_, fun z l hl => ?_⟩
      · have : ys = [] := hs.nil_iff.mp z
        subst this
        rw [List.append_nil] at k
        exact k _ W H (.refl _) G ⟨p, vs, rfl, hp, hr⟩
      · obtain ⟨e2, G2⟩ := G.lay (o := .tup (vs ++ us)) hl
        exact k _ _ _ e2 G2 ⟨l, _, rfl, SqT.of upd_same, RepAll.same e2.ff _ _ (RepAll.app hr hs)⟩
    · rw [if_neg hc] at h; cases h
  · cases h
theorem P2.or {r r' : R2} {h h' : F2} (a : P2 K r h) (b : P2 K r' h') : P2 K (fun x y H Q => r x y H Q ∨ r' x y H Q) (orF2 h h') := by
  intro x y M z M' hh W H v u Q G rv ru k
  unfold orF2 at hh
  cases e : h x y M with
  | some q =>
    rw [e] at hh
    cases hh
    exact .inl (a _ _ _ _ _ e W H v u Q G rv ru k)
  | none =>
    rw [e] at hh
    exact .inr (b _ _ _ _ _ hh W H v u Q G rv ru k)
def rCatT0 (K : PySem.W.Frag) : R2 := fun x y H Q => ∃ a b ys, x = .ref a ∧ y = .ref b ∧ SqT K H a [] ∧ SqT K H b ys ∧ Q (.ref b) H
theorem op_catT0 : OpR X (binaryOp .Add) (rCatT0 X.K) := by
  intro pins s σ H x y v u Q I rx ry h
  obtain ⟨a, b, ys, rfl, rfl, ha, hb, q⟩ := h
  cases rx
  cases ry
  obtain ⟨its, r1, ⟨⟨cls, dd, data, sl⟩, ho, hc, n, hd⟩, _⟩ := I.tuple ha
  obtain ⟨its2, r2, ⟨⟨cls2, dd2, data2, sl2⟩, ho2, hc2, n2, hd2⟩, _⟩ := I.tuple hb
  simp only at hc hd hc2 hd2
  subst hc hd hc2 hd2
  cases r1
  exact concat_meets ⟨_, ho, rfl⟩ ⟨_, ho2, rfl⟩ noFill_tuple_add seq_tuple_add PySem.F.slot_tuple_add PySem.F.entry_tuple_add (PySem.F.args_tuple_add_2 _ _) (tuple_addW0 a b #[] its2.toArray n n2 dd dd2 sl sl2 rfl) ⟨ho, ho2, ⟨.ref b, H, I, rfl, q⟩⟩
def catT0 : F2 := fun x y M => match x, y with
  | .d (.tuple []), .d (.tuple ys) => some (.d (.tuple ys), M)
  | _, _ => none
theorem p2_catT0 : P2 K (rCatT0 K) catT0 := by
  intro x y M z M' h W H v u Q G rx ry k
  unfold catT0 at h
  split at h
  · rename_i ys
    cases h
    obtain ⟨p, vs, rfl, hp, hr⟩ := (show ∃ a us, v = V.ref a ∧ SqT K W.F a us ∧ RepAll K W.F [] us from rx)
    obtain ⟨q, us, rfl, hq, hs⟩ := (show ∃ a us, u = V.ref a ∧ SqT K W.F a us ∧ RepAll K W.F ys us from ry)
    rw [show vs = [] from hr] at hp
    exact ⟨p, q, us, rfl, rfl, G.fh.seqT hp, G.fh.seqT hq, k _ W H (.refl _) G ⟨q, us, rfl, hq, hs⟩⟩
  · cases h
def addX : F2 := orF2 addI (orF2 catL (orF2 catT0 catT))
def rAddX (K : PySem.W.Frag) : R2 := fun x y H Q => (rI0 fun i j => .int (i + j)) x y H Q ∨ rCatS K x y H Q ∨ rCatT0 K x y H Q ∨ rCatT K x y H Q
theorem op_addX : OpR X (binaryOp .Add) (rAddX X.K) := op_add.or (op_catS.or (op_catT0.or op_catT))
theorem p2_addX : P2 K (rAddX K) addX := P2.or p2_I0 (P2.or p2_catL (P2.or p2_catT0 p2_catT))
def eqS (neg : Bool) : F2 := fun x y M => match x, y with
  | .d (.str a), .d (.str b) => some (.d (.bool (if neg then !(a == b) else a == b)), M)
  | _, _ => none
def eqX (neg : Bool) : F2 := orF2 (eqS neg) (eqD neg)
def rEqX (K : PySem.W.Frag) : R2 := fun x y H Q => rEq x y H Q ∨ rEqD K false x y H Q
def rNeX (K : PySem.W.Frag) : R2 := fun x y H Q => rNe x y H Q ∨ rEqD K true x y H Q
theorem decStr {a b : Str} : decide (V.str a = V.str b) = (a == b) := by
  by_cases e : a = b
  · subst e; simp
  · have h : ¬ V.str a = V.str b := fun q => e (V.str.inj q)
    rw [decide_eq_false h, beq_eq_false_iff_ne.mpr e]
theorem p2_eqS : P2 K rEq (eqS false) := by
  intro x y M z M' h W H v u Q G rx ry k
  unfold eqS at h
  split at h
  · rename_i a b
    cases h
    rw [show v = .str a from rx, show u = .str b from ry]
    refine ⟨rfl, ?_⟩
    rw [decStr]
    exact k _ W H (.refl _) G rfl
  · cases h
theorem p2_neS : P2 K rNe (eqS true) := by
  intro x y M z M' h W H v u Q G rx ry k
  unfold eqS at h
  split at h
  · rename_i a b
    cases h
    rw [show v = .str a from rx, show u = .str b from ry]
    refine ⟨rfl, ?_⟩
    rw [decStr]
    exact k _ W H (.refl _) G rfl
  · cases h
theorem p2_eqX : P2 K (rEqX K) (eqX false) := P2.or p2_eqS p2_eq
theorem p2_neX : P2 K (rNeX K) (eqX true) := P2.or p2_neS p2_eq
theorem op_eqX (hu : X.A.units + 64 < cLine) : OpR X (compareOp .Eq) (rEqX X.K) := op_eq.or (op_eqD hu)
theorem op_neX (hu : X.A.units + 64 < cLine) : OpR X (compareOp .NotEq) (rNeX X.K) := op_ne.or (op_neD hu)
theorem p2_sub : P2 K (rI0 fun i j => .int (i - j)) subI := p2_I0
theorem p2_mul : P2 K (rI CMulA fun i j => .int (i * j)) mulI := p2_I fun _ _ h => mulOk_of h
theorem p2_fdiv : P2 K (rI CDivA fun i j => .int (i / j)) fdivI := p2_I fun i j h => by
  unfold divOk at h
  rw [Bool.and_eq_true] at h
  exact ⟨of_decide_eq_true h.1, of_decide_eq_true (p := j.natAbs < wideN) h.2⟩
theorem p2_mod : P2 K (rI (fun _ j => 0 < j) fun i j => .int (i % j)) modI := p2_I fun i j h => of_decide_eq_true h
theorem p2_pow : P2 K (rI CPow fun i j => .int (i ^ j.toNat)) powI := p2_I fun i j h => by
  unfold powOk at h
  rw [Bool.and_eq_true, Bool.and_eq_true] at h
  exact ⟨of_decide_eq_true h.1.1, of_decide_eq_true h.1.2, of_decide_eq_true h.2⟩
theorem p2_lt : P2 K (rI0 fun i j => .bl (decide (i < j))) ltI := p2_B0
theorem p2_le : P2 K (rI0 fun i j => .bl (decide (i ≤ j))) leI := p2_B0
theorem p2_gt : P2 K (rI0 fun i j => .bl (decide (j < i))) gtI := p2_B0
theorem p2_ge : P2 K (rI0 fun i j => .bl (decide (j ≤ i))) geI := p2_B0
end
end L2

end

section
set_option Elab.async false
set_option linter.all false
set_option maxRecDepth 100000
set_option maxHeartbeats 4000000
namespace L2
open PySem PySem.Spec PyProof.Rows
section
variable {X : Cx} {K : PySem.W.Frag}
theorem kIsi (h : X.K = K) : CallR X (.builtin "isinstance") (rIsi K) := by subst h; exact call_isiD
theorem kIsi2 (h : X.K = K) : CallR X (.builtin "isinstance") (rIsi2 K) := by subst h; exact call_isi2D
def rIxK (K : PySem.W.Frag) : R2 := rIx K
theorem kIx (h : X.K = K) : IxR X (rIxK K) := by subst h; exact ix_seq
theorem p2_ixK : P2 K (rIxK K) ixF := p2_ix
def rLenK (K : PySem.W.Frag) : List V → Hp → VK → Prop := fun xs H Q => ∃ p ys, xs = [.ref p] ∧ (SqL K H p ys ∨ SqT K H p ys) ∧ Q (.int ys.length) H
theorem kLen (h : X.K = K) : CallR X (.builtin "len") (rLenK K) := by subst h; exact call_len_seq
theorem pn_lenK : PN K (rLenK K) lenF := pn_len
def rListK (K : PySem.W.Frag) : List V → Hp → VK → Prop := fun xs H Q => ∃ p ys, xs = [.ref p] ∧ (SqL K H p ys ∨ SqT K H p ys) ∧ ∀ l, H l = none → Q (.ref l) (upd H l (.lst ys))
theorem kList (h : X.K = K) : CallR X (.type "list") (rListK K) := by subst h; exact call_list_of
def rTupleK (K : PySem.W.Frag) : List V → Hp → VK → Prop := fun xs H Q => ∃ p ys, xs = [.ref p] ∧ ((SqL K H p ys ∧ ∀ l, H l = none → Q (.ref l) (upd H l (.tup ys))) ∨ (SqT K H p ys ∧ Q (.ref p) H))
theorem kTuple (h : X.K = K) : CallR X (.type "tuple") (rTupleK K) := by subst h; exact call_tuple_of
theorem pn_tupleK : PN K (rTupleK K) tupleF := pn_tuple
theorem kEq (h : X.K = K) (hu : X.A.units + 64 < cLine) : OpR X (compareOp .Eq) (rEqX K) := by subst h; exact op_eqX hu
theorem kNe (h : X.K = K) (hu : X.A.units + 64 < cLine) : OpR X (compareOp .NotEq) (rNeX K) := by subst h; exact op_neX hu
theorem kAdd (h : X.K = K) : OpR X (binaryOp .Add) (rAddX K) := by subst h; exact op_addX
theorem pi_seqK {tg l : Expr} {tl : TE} (h : X.K = K) (hl : PE X l tl) : PI X tg l (iSeq K tl) := by subst h; exact pi_seq hl
theorem pg_tupK {es : List Expr} {k : Nat} {t : TGs} {n : Nat} {pos : Pos} (hK : X.K = K) (hc : X.calm = true) (h : PGs X es t)
    (hn : (assignEach es X.env).length = n := by rfl) (hst : (assignEach es X.env).findIdx? (·.1) = none := by rfl) : PG X (.Tuple es k pos) (gTup K n t) := by subst hK; exact pg_tup hc h hn hst
def tTru (K : PySem.W.Frag) (ta : TE) : TT := fun σ H Q => ta σ H fun x H' => ∃ k, TruV K x H' k ∧ Q k H'
theorem pt_truK {a : Expr} {ta : TE} (hK : X.K = K) (ha : PE X a ta) (he : ∀ whole, isTrue a X.env whole = (do let v ← whole; standAt a.pos; holding [v] (truthy v))) : PT X a (tTru K ta) := by subst hK; exact pt_truth ha he
theorem st_truK {ta : TE} {f : EF} (a : SE K ta f) : STt K (tTru K ta) (gTru f) := st_tru a
end
end L2

end

section
set_option Elab.async false
set_option linter.all false
namespace L2
open PySem PySem.Spec PyProof.Rows
section
variable {es : List Expr} {env : Env}
theorem star_Constant {a b c} : starEach (.Constant a b c :: es) env = (false, eval (.Constant a b c) env) :: starEach es env := rfl
theorem star_Name {a b} : starEach (.Name a b :: es) env = (false, eval (.Name a b) env) :: starEach es env := rfl
theorem star_Tuple {a b c} : starEach (.Tuple a b c :: es) env = (false, eval (.Tuple a b c) env) :: starEach es env := rfl
theorem star_List {a b} : starEach (.List a b :: es) env = (false, eval (.List a b) env) :: starEach es env := rfl
theorem star_BinOp {a b c d} : starEach (.BinOp a b c d :: es) env = (false, eval (.BinOp a b c d) env) :: starEach es env := rfl
theorem star_Call {a b c d} : starEach (.Call a b c d :: es) env = (false, eval (.Call a b c d) env) :: starEach es env := rfl
theorem star_Subscript {a b c} : starEach (.Subscript a b c :: es) env = (false, eval (.Subscript a b c) env) :: starEach es env := rfl
theorem star_Attribute {a b c} : starEach (.Attribute a b c :: es) env = (false, eval (.Attribute a b c) env) :: starEach es env := rfl
theorem star_ListComp {a b c d} : starEach (.ListComp a b c d :: es) env = (false, eval (.ListComp a b c d) env) :: starEach es env := rfl
theorem plain_nil {pos : Pos} : (backTo pos (starEach [] env)).any (·.1) = false := rfl
theorem plain_cons {pos : Pos} {e : Expr} (hs : starEach (e :: es) env = (false, eval e env) :: starEach es env) (h : (backTo pos (starEach es env)).any (·.1) = false) : (backTo pos (starEach (e :: es) env)).any (·.1) = false := by
  rw [hs]
  have e1 : backTo pos ((false, eval e env) :: starEach es env) = (false, (do let v ← eval e env; standAt pos; pure v : Sem Value)) :: backTo pos (starEach es env) ∨ (backTo pos ((false, eval e env) :: starEach es env)).any (·.1) = (backTo pos (starEach es env)).any (·.1) := .inr (by unfold backTo; simp)
  rcases e1 with q | q
  · rw [q, List.any_cons, h]; rfl
  · rw [q]; exact h
end
end L2

end

section
set_option Elab.async false
set_option linter.all false
set_option maxRecDepth 100000
set_option maxHeartbeats 4000000
namespace L2
open PySem PySem.Spec PyProof.Rows
section
variable {P : Program} {w : World} {K : PySem.W.Frag} {mg : Str → Option Value}
theorem Fun.okM {base : Heap} {x : Str} {st : Stmt} {N ps : List Str} {k : Nat} {b : SF} {f : Addr} {fd : FuncData} (F : Fun K x x st f fd) (S : FnScope N ps (defScope st))
    (hbody : ∀ (f : Addr) (cdv : Value) (A : Around) (outer : List Env) (s : Shared) (H : Hp) (E : XK), Room k (A.deeper (envOfC x (defScope st) s.heap.objs.size f cdv)) →
      ∃ t, PSs (cxOf CX0 P w K mg base N x (defScope st) f cdv A outer s H E).nox (defBody st) t ∧ SS K t b) : FnOk P w K mg base CX0 (k + 1) f fd ps (spM K (fnF ps.length N.length b)) := by
  have len : ∀ vs H Q E, spM K (fnF ps.length N.length b) vs H Q E → vs.length = ps.length := fun vs H Q E h => by
    obtain ⟨xs, M, W, y, M', G, R, hf, _⟩ := h
    by_cases hl : xs.length = ps.length
    · rw [← Paired.len R]; exact hl
    · unfold fnF at hf
      rw [if_neg hl] at hf; cases hf
  refine F.ok S len fun cdv A outer s H vs Q E hr h => ?_
  obtain ⟨t, hP, hS⟩ := hbody f cdv A outer s H E hr
  refine ⟨t, hP, ?_⟩
  obtain ⟨xs, M, W, y, M', G, R, hf, k⟩ := h
  by_cases hl : xs.length = ps.length
  · unfold fnF at hf
    rw [if_pos hl] at hf
    obtain ⟨⟨o, M1⟩, h1, hf⟩ := bindE hf
    have hR : RepS K W (xs.map some ++ List.replicate (N.length - xs.length) none) (start N vs) := by
      unfold start
      rw [← Paired.len R]
      exact Paired.app (RepVs.some R) (rep_none _)
    refine hS _ _ _ _ h1 W H _ _ G hR fun W1 H1 e1 G1 => ?_
    cases o with
    | rt x => cases hf; exact fun v r => k v W1 H1 e1 G1 r
    | nx γ => cases hf; exact fun σ r => k .non W1 H1 e1 G1 rfl
    | bk γ => cases hf
    | ct γ => cases hf
  · unfold fnF at hf
    rw [if_neg hl] at hf; cases hf
theorem Def.okL {x p : Str} {st : Stmt} {N : List Str} {k : Nat} {b : SF} {F : FN} (D : Def K mg x st) (S : FnScope N [p] (defScope st)) (hF : F = fnF 1 N.length b)
    (hb : ∀ (kV doc pm : Value) (an : Option Addr) (cdv ct : Value) (us : List Value), us.length = [p].length → bindArgs (PySem.W.fnOf x x (defArgs st) (defBody st) (defScope st) .none kV doc pm an cdv ct) ⟨us, []⟩ = pure ([p].zip us))
    (hbody : ∀ (base : Heap) (f : Addr) (cdv : Value) (A : Around) (outer : List Env) (s : Shared) (H : Hp) (E : XK), Room k (A.deeper (envOfC x (defScope st) s.heap.objs.size f cdv)) →
      ∃ t, PSs (cxOf CX0 P w K mg base N x (defScope st) f cdv A outer s H E).nox (defBody st) t ∧ SS K t b) :
    ∃ f fd, mg x = some (.ref f) ∧ (∀ (s : Shared) (u : Value), BindsTo s fd ⟨[u], []⟩ [(p, u)]) ∧ ∀ base, FnOk P w K mg base CX0 (k + 1) f fd [p] (spM K F) := by
  subst hF
  obtain ⟨f, fd, Fu, m⟩ := D.ex
  refine ⟨f, fd, m, fun s u => ?_, fun base => Fu.okM S (hbody base)⟩
  obtain ⟨oc, od, kV, doc, pm, an, cdv, ct, osl, rfl, lk, hcd⟩ := Fu.ex
  exact .of_eq (hb kV doc pm an cdv ct [u] rfl)
theorem rep_ints {H : Hp} : ∀ ns : List Int, RepAll K H (ns.map .int) (ns.map V.int)
  | [] => rfl
  | n :: ns => ⟨.int n, ns.map V.int, rfl, rfl, rep_ints ns⟩
theorem law_sp {F : FN} (hF : ∀ ns : List Int, ns.length ≤ 63 → ∃ M', F [.d (.list (ns.map .int))] [] = some (.d (.bool true), M')) {H : Hp} {a : Addr} {ns : List Int} (hl : ns.length ≤ 63) (hS : SqL K H a (ns.map V.int)) (E : XK) :
    spM K F [.ref a] H (fun v _ => v = .bl true) E := by
  obtain ⟨M', h⟩ := hF ns hl
  refine ⟨[.d (.list (ns.map .int))], [], ⟨H, fun _ => 0, 0⟩, _, M', ⟨Same.refl H, rfl, fun i c h => by simp at h, fun i j c c' h => by simp at h⟩, .cons (show ∃ a' vs, V.ref a = .ref a' ∧ SqL K H a' vs ∧ RepAll K H (ns.map .int) vs from ⟨a, ns.map V.int, rfl, hS, rep_ints ns⟩) .nil, h, fun v W' H' _ _ r => r⟩
theorem law_walk {l : PySem.W.OpenLaw} {q : Program} {loose : List Str} {XP : (Str → Option Value) → Heap → Prop} {YP : World → Heap → Prop} {d : DefRec} {K : Params → PySem.W.Frag} {F : FN} {k : Nat} {p : Str} (hq : PyProof.Rows.importsNone q = true) (hn : l.most = some 63) (hdf : d.params.defaults = []) (hr : Room k callerA)
    (hY : ∀ (w : World) (h : Heap), YP w h → (K w.params).In h)
    (hT : ∀ (w : World) (mg : Str → Option Value) (h : Heap), (K w.params).In h → h.Ns mainGlobals mg → ∃ f fd, mg d.name = some (.ref f) ∧ (∀ (s : Shared) (u : Value), BindsTo s fd ⟨[u], []⟩ [(p, u)]) ∧ ∀ base, FnOk l.prog w (K w.params) mg base CX0 k f fd [p] (spM (K w.params) F))
    (hF : ∀ ns : List Int, ns.length ≤ 63 → ∃ M', F [.d (.list (ns.map .int))] [] = some (.d (.bool true), M')) :
    PySem.W.WalkO q loose XP YP l.row.toRowW d [] (fun f vs => PySem.call f vs) :=
  L2.walk_of hq (n := 63) (k := k) (x := p) (CX := fun _ => CX0) (sp := fun w => spM (K w.params) F) hn (by decide) hdf hr hY
    (fun w mg fa h KX G hmg => by
      obtain ⟨f, fd, m, hb, hf⟩ := hT w mg h KX G
      have e : (some (Value.ref f)) = some (.ref fa) := m.symm.trans hmg
      cases e
      exact ⟨fd, hb, fun base _ _ => hf base⟩)
    (fun w H a ns hl _ hS => law_sp hF hl hS _) fun _ _ _ _ _ z => z
end
end L2

end

section
set_option Elab.async false
set_option linter.all false
set_option maxRecDepth 100000
set_option maxHeartbeats 4000000
namespace L2
open PySem PySem.Spec PyProof.Rows
def Star (e : Expr) (es : List Expr) : Prop := ∀ env : Env, starEach (e :: es) env = (false, eval e env) :: starEach es env
def Stars : List Expr → Prop
  | [] => True
  | e :: es => Star e es ∧ Stars es
theorem Stars.plain : ∀ {es : List Expr}, Stars es → ∀ (env : Env) (pos : Pos), (backTo pos (starEach es env)).any (·.1) = false
  | [], _, _, _ => rfl
  | _ :: _, h, env, pos => plain_cons (h.1 env) (h.2.plain env pos)
section
variable {ι : Type}
structure ME (K : PySem.W.Frag) (X : ι → Cx) (e : Expr) (f : EF) : Prop where
  ex : ∃ t, (∀ i, PE (X i) e t) ∧ SE K t f
structure MT (K : PySem.W.Frag) (X : ι → Cx) (e : Expr) (f : TF) : Prop where
  ex : ∃ t, (∀ i, PT (X i) e t) ∧ STt K t f
structure MW (K : PySem.W.Frag) (X : ι → Cx) (e : Expr) (f : TF) : Prop where
  ex : ∃ t, (∀ i, PW (X i) e t) ∧ STt K t f
structure MA (K : PySem.W.Frag) (X : ι → Cx) (es : List Expr) (f : AF) : Prop where
  ex : ∃ t, (∀ i, PA (X i) es t) ∧ SA K t f
  st : Stars es
structure MG (K : PySem.W.Frag) (X : ι → Cx) (e : Expr) (f : GF) : Prop where
  ex : ∃ t, (∀ i, PG (X i) e t) ∧ SG K t f
structure MGs (K : PySem.W.Frag) (X : ι → Cx) (es : List Expr) (f : GsF) : Prop where
  ex : ∃ t, (∀ i, PGs (X i) es t) ∧ SGs K t f
structure MI (K : PySem.W.Frag) (X : ι → Cx) (tg e : Expr) (f : AF) : Prop where
  ex : ∃ t, (∀ i, PI (X i) tg e t) ∧ SI K t f
structure MF (K : PySem.W.Frag) (X : ι → Cx) (es : List Expr) (f : TF) : Prop where
  ex : ∃ t, (∀ i, PIfs (X i) es t) ∧ STt K t f
structure MS (K : PySem.W.Frag) (X : ι → Cx) (st : Stmt) (f : SF) : Prop where
  ex : ∃ t, (∀ i, PS (X i) st t) ∧ SS K t f
structure ML (K : PySem.W.Frag) (X : ι → Cx) (st : List Stmt) (f : SF) : Prop where
  ex : ∃ t, (∀ i, PSs (X i) st t) ∧ SS K t f
structure Q2 (K : PySem.W.Frag) (X : ι → Cx) (o : Value → Value → Sem Value) (h : F2) : Prop where
  ex : ∃ r, (∀ i, OpR (X i) o r) ∧ P2 K r h
structure QN (K : PySem.W.Frag) (X : ι → Cx) (f : Value) (h : FN) : Prop where
  ex : ∃ r, (∀ i, CallR (X i) f r) ∧ PN K r h
structure QI (K : PySem.W.Frag) (X : ι → Cx) (h : F2) : Prop where
  ex : ∃ r, (∀ i, IxR (X i) r) ∧ P2 K r h
structure QS (K : PySem.W.Frag) (X : ι → Cx) (h : F3) : Prop where
  ex : ∃ r, (∀ i, PSet (X i) r) ∧ P3 K r h
variable {K : PySem.W.Frag} {X : ι → Cx} {a b c e : Expr} {es : List Expr} {f g h : EF} {ft gt : TF} {fa : AF} {pos : Pos}
theorem me_var (i : Nat) {x : Str} (hN : ∀ j, (X j).N[i]? = some x := by intro _; rfl) (hv : ∀ j, Vis (X j).env.scope x := by intro _; first | exact Or.inl rfl | exact Or.inr (Or.inl rfl) | exact Or.inr (Or.inr rfl)) (hd : (x == ("__debug__" : Str)) = false := by decide) (hcd : (x == ("__classdict__" : Str)) = false := by decide) :
    ME K X (.Name x pos) (fVar i) := ⟨_, fun j => pe_var (hN j) (hv j) hd hcd, se_var⟩
theorem me_int {i : Int} {j : Nat} : ME K X (.Constant (.int i) j pos) (fC (.int i)) := ⟨_, fun _ => pe_int, se_int⟩
theorem me_bl {i : Bool} {j : Nat} : ME K X (.Constant (.bool i) j pos) (fC (.bool i)) := ⟨_, fun _ => pe_bl, se_bl⟩
theorem me_globI {x : Str} {n : Int} (hm : ∀ i, ∃ t : Tok, (X i).mg x = some (.int n t)) (hg : ∀ i, Gl (X i) x := by intro _; rfl) (hd : (x == ("__debug__" : Str)) = false := by decide) : ME K X (.Name x pos) (fC (.int n)) :=
  ⟨_, fun i => pe_glob (v := .int n) (hg i) (hm i).choose_spec ⟨_, rfl⟩ hd, se_int⟩
theorem me_op {op : Operator} {k : F2} (q : Q2 K X (binaryOp op) k) (x : ME K X a f) (y : ME K X b g) : ME K X (.BinOp a op b pos) (fOp k f g) := by
  obtain ⟨r, q1, q2⟩ := q.ex; obtain ⟨t, x1, x2⟩ := x.ex; obtain ⟨u, y1, y2⟩ := y.ex
  exact ⟨_, fun i => pe_op (q1 i) (x1 i) (y1 i), se_op q2 x2 y2⟩
theorem me_and {rest : List Expr} (x : ME K X a f) (y : ME K X (.BoolOp .And (b :: rest) pos) g) : ME K X (.BoolOp .And (a :: b :: rest) pos) (fAnd f g) := by
  obtain ⟨t, x1, x2⟩ := x.ex; obtain ⟨u, y1, y2⟩ := y.ex
  exact ⟨_, fun i => pe_and (x1 i) (y1 i), se_and x2 y2⟩
theorem me_one {op : BoolOp} (x : ME K X a f) : ME K X (.BoolOp op [a] pos) f := by
  obtain ⟨t, x1, x2⟩ := x.ex
  exact ⟨_, fun i => pe_one (x1 i), x2⟩
theorem me_not (x : ME K X a f) : ME K X (.UnaryOp .Not a pos) (fNot f) := by
  obtain ⟨t, x1, x2⟩ := x.ex
  exact ⟨_, fun i => pe_not (x1 i), se_not x2⟩
theorem me_cmp {op : CmpOp} {k : F2} (q : Q2 K X (compareOp op) k) (x : ME K X a f) (y : ME K X b g) (hm : behindInMarks op b = false := by rfl) : ME K X (.Compare a [op] [b] pos) (fOp k f g) := by
  obtain ⟨r, q1, q2⟩ := q.ex; obtain ⟨t, x1, x2⟩ := x.ex; obtain ⟨u, y1, y2⟩ := y.ex
  exact ⟨_, fun i => pe_cmpR (q1 i) (x1 i) (y1 i) hm, se_op q2 x2 y2⟩
theorem me_chain {op op' : CmpOp} {k k' : F2} (q : Q2 K X (compareOp op) k) (q' : Q2 K X (compareOp op') k') (x : ME K X a f) (y : ME K X b g) (z : ME K X c h) (hm : lastMarks [op, op'] [b, c] = false := by with_unfolding_all rfl) : ME K X (.Compare a [op, op'] [b, c] pos) (fChain k k' f g h) := by
  obtain ⟨r, q1, q2⟩ := q.ex; obtain ⟨r', q1', q2'⟩ := q'.ex; obtain ⟨t, x1, x2⟩ := x.ex; obtain ⟨u, y1, y2⟩ := y.ex; obtain ⟨v, z1, z2⟩ := z.ex
  exact ⟨_, fun i => pe_chain (q1 i) (q1' i) (x1 i) (y1 i) (z1 i) hm, se_chain q2 q2' x2 y2 z2⟩
theorem ma_nil : MA K X [] fNil := ⟨⟨_, fun _ => pa_nil, sa_nil⟩, trivial⟩
theorem ma_cons (x : ME K X e f) (y : MA K X es fa) (hs : Star e es) : MA K X (e :: es) (fCons f fa) := by
  obtain ⟨t, x1, x2⟩ := x.ex; obtain ⟨u, y1, y2⟩ := y.ex
  exact ⟨⟨_, fun i => pa_cons (x1 i) (y1 i) (hs _), sa_cons x2 y2⟩, hs, y.st⟩
theorem me_tup {k : Nat} (x : MA K X es fa) : ME K X (.Tuple es k pos) (fTup fa) := by
  obtain ⟨t, x1, x2⟩ := x.ex
  exact ⟨_, fun i => pe_tup (x1 i), se_tup x2⟩
theorem me_lst (x : MA K X es fa) : ME K X (.List es pos) (fLst fa) := by
  obtain ⟨t, x1, x2⟩ := x.ex
  exact ⟨_, fun i => pe_lst (x1 i), se_lst x2⟩
theorem me_new (x : MA K X es fa) : ME K X (.List es pos) (fNew fa) := by
  obtain ⟨t, x1, x2⟩ := x.ex
  exact ⟨_, fun i => pe_lst (x1 i), se_new x2⟩
theorem me_ix {k : F2} (q : QI K X k) (x : ME K X a f) (y : ME K X b g) (hs : PlainIx b) : ME K X (.Subscript a b pos) (fOp k f g) := by
  obtain ⟨r, q1, q2⟩ := q.ex; obtain ⟨t, x1, x2⟩ := x.ex; obtain ⟨u, y1, y2⟩ := y.ex
  exact ⟨_, fun i => pe_ix (q1 i) (x1 i) (y1 i) hs, se_op q2 x2 y2⟩
theorem me_call {k : Nat} {x : Str} {ps : List Str} {F : FN} {p : Pos} (C : ∀ i, Callee (X i).prog (X i).w (X i).K (X i).mg (X i).base k x ps (spM K F)) (hr : ∀ i, Room k (X i).A) (y : MA K X (e :: es) fa) (hg : ∀ i, Gl (X i) x := by intro _; rfl) (hd : (x == ("__debug__" : Str)) = false := by decide) :
    ME K X (.Call (.Name x p) (e :: es) [] pos) (fCall F fa) := by
  obtain ⟨u, y1, y2⟩ := y.ex
  exact ⟨_, fun i => pe_cal (C i) (hr i) (y1 i) (hg i) hd (y.st.1 _) (y.st.2.plain _ _), se_call y2⟩
theorem me_callB {x : Str} {id : String} {F : FN} {p : Pos} (q : QN K X (.builtin id) F) (hm : ∀ i, (X i).mg x = none) (hv : bootBuiltins x = some (.builtin id)) (y : MA K X (e :: es) fa) (hg : ∀ i, Gl (X i) x := by intro _; rfl) (hn : x ≠ "__name__" := by decide) (hd : (x == ("__debug__" : Str)) = false := by decide) :
    ME K X (.Call (.Name x p) (e :: es) [] pos) (fCall F fa) := by
  obtain ⟨r, q1, q2⟩ := q.ex; obtain ⟨u, y1, y2⟩ := y.ex
  exact ⟨_, fun i => pe_callB (q1 i) (hg i) (hm i) hv (y1 i) hn hd (y.st.1 _) (y.st.2.plain _ _), se_cb q2 y2⟩
theorem me_callT {x : Str} {id : String} {F : FN} {p : Pos} (q : QN K X (.type id) F) (hm : ∀ i, (X i).mg x = none) (hv : bootBuiltins x = some (.type id)) (y : MA K X (e :: es) fa) (hg : ∀ i, Gl (X i) x := by intro _; rfl) (hn : x ≠ "__name__" := by decide) (hd : (x == ("__debug__" : Str)) = false := by decide) :
    ME K X (.Call (.Name x p) (e :: es) [] pos) (fCall F fa) := by
  obtain ⟨r, q1, q2⟩ := q.ex; obtain ⟨u, y1, y2⟩ := y.ex
  exact ⟨_, fun i => pe_callTy (q1 i) (hg i) (hm i) hv (y1 i) hn hd (y.st.1 _) (y.st.2.plain _ _), se_cb q2 y2⟩
theorem mt_not (x : MT K X a ft) : MT K X (.UnaryOp .Not a pos) (gNot ft) := by
  obtain ⟨t, x1, x2⟩ := x.ex
  exact ⟨_, fun i => pt_not (x1 i), st_not x2⟩
theorem mw_and {rest : List Expr} (x : MT K X a ft) (y : MW K X (.BoolOp .And (b :: rest) pos) gt) : MW K X (.BoolOp .And (a :: b :: rest) pos) (gAnd ft gt) := by
  obtain ⟨t, x1, x2⟩ := x.ex; obtain ⟨u, y1, y2⟩ := y.ex
  exact ⟨_, fun i => pw_and (x1 i) (y1 i), st_and x2 y2⟩
theorem mw_and1 (x : MT K X a ft) : MW K X (.BoolOp .And [a] pos) ft := by
  obtain ⟨t, x1, x2⟩ := x.ex
  exact ⟨_, fun i => pw_and1 (x1 i), x2⟩
theorem mw_or {rest : List Expr} (x : MT K X a ft) (y : MW K X (.BoolOp .Or (b :: rest) pos) gt) : MW K X (.BoolOp .Or (a :: b :: rest) pos) (gOr ft gt) := by
  obtain ⟨t, x1, x2⟩ := x.ex; obtain ⟨u, y1, y2⟩ := y.ex
  exact ⟨_, fun i => pw_or (x1 i) (y1 i), st_or x2 y2⟩
theorem mw_or1 (x : MT K X a ft) : MW K X (.BoolOp .Or [a] pos) ft := by
  obtain ⟨t, x1, x2⟩ := x.ex
  exact ⟨_, fun i => pw_or1 (x1 i), x2⟩
theorem mt_w (x : MW K X a ft) : MT K X a ft := by
  obtain ⟨t, x1, x2⟩ := x.ex
  exact ⟨_, fun i => (x1 i).pt, x2⟩
theorem mt_cmp {op : CmpOp} {k : F2} (q : Q2 K X (compareOp op) k) (x : ME K X a f) (y : ME K X b g) (hm : behindInMarks op b = false := by rfl) : MT K X (.Compare a [op] [b] pos) (gB (fOp k f g)) := by
  obtain ⟨r, q1, q2⟩ := q.ex; obtain ⟨t, x1, x2⟩ := x.ex; obtain ⟨u, y1, y2⟩ := y.ex
  exact ⟨_, fun i => pt_cmpR (q1 i) (x1 i) (y1 i) hm, st_test (se_op q2 x2 y2)⟩
theorem mt_val (x : ME K X a f) (he : ∀ (env : Env) (whole : Sem Value), isTrue a env whole = (do let v ← whole; standAt a.pos; holding [v] (truthy v)) := by intro _ _; rfl) : MT K X a (gB f) := by
  obtain ⟨t, x1, x2⟩ := x.ex
  exact ⟨_, fun i => pt_val (x1 i) (he _), st_b x2⟩
theorem mt_tru (hK : ∀ i, (X i).K = K) (x : ME K X a f) (he : ∀ (env : Env) (whole : Sem Value), isTrue a env whole = (do let v ← whole; standAt a.pos; holding [v] (truthy v)) := by intro _ _; rfl) : MT K X a (gTru f) := by
  obtain ⟨t, x1, x2⟩ := x.ex
  exact ⟨_, fun i => pt_truK (hK i) (x1 i) (he _), st_truK x2⟩
theorem mi_rng1 {tg : Expr} {p : Pos} (hm : ∀ i, (X i).mg "range" = none) (x : MA K X [a] fa) (hg : ∀ i, Gl (X i) "range" := by intro _; rfl) : MI K X tg (.Call (.Name "range" p) [a] [] pos) (fRng1 fa) := by
  obtain ⟨t, x1, x2⟩ := x.ex
  exact ⟨_, fun i => pi_range1 (hg i) (hm i) (x1 i) (x.st.1 _), si_rng1 x2⟩
theorem mi_seq {tg : Expr} (hK : ∀ i, (X i).K = K) (x : ME K X a f) : MI K X tg a (fItems f) := by
  obtain ⟨t, x1, x2⟩ := x.ex
  exact ⟨_, fun i => pi_seqK (hK i) (x1 i), si_seq x2⟩
theorem mg_name (i : Nat) {x : Str} (hN : ∀ j, (X j).N.Nodup) (hi : ∀ j, (X j).N[i]? = some x := by intro _; rfl) (hx : ∀ j, Loc (X j).env.scope x := by intro _; first | exact Or.inl rfl | exact Or.inr rfl) (hf : ∀ j, (X j).fn x = true ∨ (X j).env.scope.names.lookup x = some .local := by intro _; first | exact .inl rfl | exact .inr rfl) :
    MG K X (.Name x pos) (hName i) := ⟨_, fun j => pg_name (hN j) (hi j) (hx j) (hf j), sg_name⟩
theorem mgs_nil : MGs K X [] hNil := ⟨_, fun _ => pgs_nil, sgs_nil⟩
theorem mgs_cons {gf : GF} {gs : GsF} (x : MG K X e gf) (y : MGs K X es gs) (hs : ∀ env : Env, (assignEach (e :: es) env).map (·.2) = assign e env :: (assignEach es env).map (·.2) := by intro _; rfl) : MGs K X (e :: es) (hCons gf gs) := by
  obtain ⟨t, x1, x2⟩ := x.ex; obtain ⟨u, y1, y2⟩ := y.ex
  exact ⟨_, fun i => pgs_cons (x1 i) (y1 i) (hs _), sgs_cons x2 y2⟩
theorem mg_tup {gs : GsF} {k n : Nat} (hK : ∀ i, (X i).K = K) (hc : ∀ i, (X i).calm = true) (x : MGs K X es gs) (hn : ∀ env : Env, (assignEach es env).length = n := by intro _; rfl) (hst : ∀ env : Env, (assignEach es env).findIdx? (·.1) = none := by intro _; rfl) : MG K X (.Tuple es k pos) (hTup n gs) := by
  obtain ⟨t, x1, x2⟩ := x.ex
  exact ⟨_, fun i => pg_tupK (hK i) (hc i) (x1 i) (hn _) (hst _), sg_tup x2⟩
theorem mg_sub {s : F3} (q : QS K X s) (x : ME K X a f) (y : ME K X b g) (hs : ∀ (env : Env) (v : Value), assign (.Subscript a b pos) env v = (do
      let ov ← holding [v] (eval a env)
      let iv ← holding [v, ov] (eval b env)
      standAt pos
      holding [v, ov, iv] (setItem ov iv v)
      release [v, ov, iv] []) := by intro _ _; rfl) : MG K X (.Subscript a b pos) (hSub f g s) := by
  obtain ⟨r, q1, q2⟩ := q.ex; obtain ⟨t, x1, x2⟩ := x.ex; obtain ⟨u, y1, y2⟩ := y.ex
  exact ⟨_, fun i => pg_sub (x1 i) (y1 i) (q1 i) (hs _), sg_sub q2 x2 y2⟩
theorem mf_nil : MF K X [] gYes := ⟨_, fun _ => pifs_nil, st_yes⟩
theorem mf_one (x : MT K X c ft) : MF K X [c] ft := by
  obtain ⟨t, x1, x2⟩ := x.ex
  exact ⟨_, fun i => pifs_one (x1 i), x2⟩
abbrev LcI (ι : Type) : Type := ι × Addr × Shared × Hp × List Addr × List (Addr × Obj)
def lcFam (X : ι → Cx) (N' : List Str) (scope : Scope) : LcI ι → Cx := fun j => lcCx (X j.1) N' scope j.2.1 j.2.2.1 j.2.2.2.1 j.2.2.2.2.1 j.2.2.2.2.2
variable {N' : List Str} {cap : List (Option Nat)} {scope : Scope} {tg iter elt : Expr} {ifs : List Expr} {gf : GF}
theorem me_lc (hc : ∀ i, (X i).calm = true) (S : ∀ i, LcSc (X i) N' cap scope) (x : MI K X tg iter fa) (y : MG K (lcFam X N' scope) tg gf) (z : MF K (lcFam X N' scope) ifs ft) (w : ME K (lcFam X N' scope) elt f) (hs : ∀ (env : Env) (x : Value), foldedSetIterable iter env x = pure x := by intro _ _; rfl) :
    ME K X (.ListComp elt [⟨tg, iter, ifs, 0⟩] scope pos) (fLc cap fa gf ft f) := by
  obtain ⟨t, x1, x2⟩ := x.ex; obtain ⟨u, y1, y2⟩ := y.ex; obtain ⟨v, z1, z2⟩ := z.ex; obtain ⟨o, w1, w2⟩ := w.ex
  exact ⟨_, fun i => pe_lc (hc i) (S i) (x1 i) (fun C s H fp pn => y1 (i, C, s, H, fp, pn)) (fun C s H fp pn => z1 (i, C, s, H, fp, pn)) (fun C s H fp pn => w1 (i, C, s, H, fp, pn)) (hs _), se_lc x2 y2 z2 w2⟩
theorem me_lcN (hc : ∀ i, (X i).calm = true) (S : ∀ i, LcSc (X i) N' cap scope) (x : MI K X tg iter fa) (y : MG K (lcFam X N' scope) tg gf) (z : MF K (lcFam X N' scope) ifs ft) (w : ME K (lcFam X N' scope) elt f) (hs : ∀ (env : Env) (x : Value), foldedSetIterable iter env x = pure x := by intro _ _; rfl) :
    ME K X (.ListComp elt [⟨tg, iter, ifs, 0⟩] scope pos) (fLcN cap fa gf ft f) := by
  obtain ⟨t, x1, x2⟩ := x.ex; obtain ⟨u, y1, y2⟩ := y.ex; obtain ⟨v, z1, z2⟩ := z.ex; obtain ⟨o, w1, w2⟩ := w.ex
  exact ⟨_, fun i => pe_lc (hc i) (S i) (x1 i) (fun C s H fp pn => y1 (i, C, s, H, fp, pn)) (fun C s H fp pn => z1 (i, C, s, H, fp, pn)) (fun C s H fp pn => w1 (i, C, s, H, fp, pn)) (hs _), se_lcN x2 y2 z2 w2⟩
theorem ms_setLc (i : Nat) {x' : Str} {pos' pos'' : Pos} (hN : ∀ j, (X j).N.Nodup) (hc : ∀ i, (X i).calm = true) (S : ∀ i, LcSc (X i) N' cap scope) (x : MI K X tg iter fa) (y : MG K (lcFam X N' scope) tg gf) (z : MF K (lcFam X N' scope) ifs ft) (w : ME K (lcFam X N' scope) elt f)
    (hix : ∀ j, (X j).N[i]? = some x' := by intro _; rfl) (hsw : ∀ j, swapsWith (.ListComp elt [⟨tg, iter, ifs, 0⟩] scope pos) (some (.Name x' pos')) pos''.line (X j).env = pure true := by intro _; rfl) (hx : ∀ j, (X j).env.scope.names.lookup x' = some .local := by intro _; rfl) (hs : ∀ (env : Env) (x : Value), foldedSetIterable iter env x = pure x := by intro _ _; rfl) :
    MS K X (.Assign [.Name x' pos'] (.ListComp elt [⟨tg, iter, ifs, 0⟩] scope pos) pos'') (sAsg (fLc cap fa gf ft f) (hName i)) := by
  obtain ⟨t, x1, x2⟩ := x.ex; obtain ⟨u, y1, y2⟩ := y.ex; obtain ⟨v, z1, z2⟩ := z.ex; obtain ⟨o, w1, w2⟩ := w.ex
  exact ⟨_, fun j => ps_setLc (hN j) (hix j) (hc j) (S j) (x1 j) (fun C s H fp pn => y1 (j, C, s, H, fp, pn)) (fun C s H fp pn => z1 (j, C, s, H, fp, pn)) (fun C s H fp pn => w1 (j, C, s, H, fp, pn)) (hsw j) (hx j) (hs _), ss_asg (se_lc x2 y2 z2 w2) sg_name⟩
variable {st : Stmt} {sts : List Stmt} {sf sg : SF}
theorem ml_nil : ML K X [] sNext := ⟨_, fun _ => pss_nil, ss_next⟩
theorem ml_one (x : MS K X st sf) : ML K X [st] sf := by
  obtain ⟨t, x1, x2⟩ := x.ex
  exact ⟨_, fun i => pss_one (x1 i), x2⟩
theorem ml_cons (x : MS K X st sf) (y : ML K X sts sg) : ML K X (st :: sts) (sSeq sf sg) := by
  obtain ⟨t, x1, x2⟩ := x.ex; obtain ⟨u, y1, y2⟩ := y.ex
  exact ⟨_, fun i => pss_cons (x1 i) (y1 i), ss_seq x2 y2⟩
theorem ms_ret (x : ME K X e f) : MS K X (.Return (some e) pos) (sRet f) := by
  obtain ⟨t, x1, x2⟩ := x.ex
  exact ⟨_, fun i => ps_ret (x1 i), ss_ret x2⟩
def sNever : SF := fun _ _ => none
theorem ms_never : MS K X st sNever := ⟨tNever, fun _ => ps_never, fun _ _ _ _ h => by cases h⟩
theorem ms_expr (x : ME K X e f) (hs : ∀ i, swapsWith e none pos.line (X i).env = pure false := by intro _; rfl) : MS K X (.Expr e pos) (sDrop f) := by
  obtain ⟨t, x1, x2⟩ := x.ex
  exact ⟨_, fun i => ps_expr (x1 i) (hs i), ss_drop x2⟩
theorem ms_if {sts' : List Stmt} (x : MT K X c ft) (y : ML K X sts sf) (z : ML K X sts' sg) : MS K X (.If c sts sts' pos) (sIf ft sf sg) := by
  obtain ⟨t, x1, x2⟩ := x.ex; obtain ⟨u, y1, y2⟩ := y.ex; obtain ⟨v, z1, z2⟩ := z.ex
  exact ⟨_, fun i => ps_if (x1 i) (y1 i) (z1 i), ss_if x2 y2 z2⟩
theorem ms_while (hp : ∀ i, PassesOwn (model (X i).prog (X i).w) (X i).A (X i).env (X i).xe) (x : MT K X c ft) (y : ML K X sts sf) : MS K X (.While c sts [] pos) (sWhile ft sf) := by
  obtain ⟨t, x1, x2⟩ := x.ex; obtain ⟨u, y1, y2⟩ := y.ex
  exact ⟨_, fun i => ps_while (hp i) (x1 i) (y1 i), ss_while x2 y2⟩
theorem ms_for (hp : ∀ i, PassesOwn (model (X i).prog (X i).w) (X i).A (X i).env (X i).xe) (hc : ∀ i, (X i).calm = true) (x : MI K X tg iter fa) (y : MG K X tg gf) (z : ML K X sts sf) (hs : ∀ (env : Env) (x : Value), foldedSetIterable iter env x = pure x := by intro _ _; rfl) : MS K X (.For tg iter sts [] pos) (sFor fa gf sf) := by
  obtain ⟨t, x1, x2⟩ := x.ex; obtain ⟨u, y1, y2⟩ := y.ex; obtain ⟨v, z1, z2⟩ := z.ex
  exact ⟨_, fun i => ps_for (hp i) (hc i) (x1 i) (y1 i) (z1 i) (hs _), ss_for x2 y2 z2⟩
theorem ms_set (i : Nat) {x' : Str} {pos' : Pos} (hN : ∀ j, (X j).N.Nodup) (x : ME K X e f) (hi : ∀ j, (X j).N[i]? = some x' := by intro _; rfl) (hx : ∀ j, Loc (X j).env.scope x' := by intro _; first | exact Or.inl rfl | exact Or.inr rfl) (hs : ∀ j, swapsWith e (some (.Name x' pos')) pos.line (X j).env = pure false := by intro _; rfl)
    (hf : ∀ j, (X j).fn x' = true ∨ (X j).env.scope.names.lookup x' = some .local := by intro _; first | exact .inl rfl | exact .inr rfl) : MS K X (.Assign [.Name x' pos'] e pos) (sAsg f (hName i)) := by
  obtain ⟨t, x1, x2⟩ := x.ex
  exact ⟨_, fun j => ps_set (hN j) (hi j) (hx j) (x1 j) (hs j) (hf j), ss_asg x2 sg_name⟩
theorem ms_par (i j : Nat) {x' y' : Str} {px py pt pt2 : Pos} {kt k2 : Nat} (hc : ∀ j, (X j).calm = true) (hN : ∀ j, (X j).N.Nodup) (x : MA K X [a, b] fa) (hij : i ≠ j := by decide) (hi : ∀ k, (X k).N[i]? = some x' := by intro _; rfl) (hj : ∀ k, (X k).N[j]? = some y' := by intro _; rfl) (hx : ∀ k, (X k).env.scope.names.lookup x' = some .local := by intro _; rfl) (hy : ∀ k, (X k).env.scope.names.lookup y' = some .local := by intro _; rfl)
    (h1 : ∀ k, swappedStores [.Tuple [.Name x' px, .Name y' py] kt pt] (.Tuple [a, b] k2 pt2) (X k).env = pure (some [x', y']) := by intro _; rfl) (h2 : ∀ k, swapsWithSole [.Tuple [.Name x' px, .Name y' py] kt pt] (.Tuple [a, b] k2 pt2) pos.line (X k).env = pure false := by intro _; rfl) :
    MS K X (.Assign [.Tuple [.Name x' px, .Name y' py] kt pt] (.Tuple [a, b] k2 pt2) pos) (sPar i j fa) := by
  obtain ⟨t, x1, x2⟩ := x.ex
  exact ⟨_, fun k => ps_par (hc k) (hN k) (hi k) (hj k) hij (hx k) (hy k) (x1 k) (h1 k) (h2 k), ss_par x2⟩
theorem ms_asg (x : ME K X e f) (y : MG K X tg gf) (h1 : ∀ k, swapsWithSole [tg] e pos.line (X k).env = pure false := by intro _; rfl) (h2 : ∀ k, swappedStores [tg] e (X k).env = pure none := by intro _; rfl) (h3 : ∀ env : Env, (assignEach [tg] env).map (·.2) = [assign tg env] := by intro _; rfl) : MS K X (.Assign [tg] e pos) (sAsg f gf) := by
  obtain ⟨t, x1, x2⟩ := x.ex; obtain ⟨u, y1, y2⟩ := y.ex
  exact ⟨_, fun k => ps_asg (x1 k) (y1 k) (h1 k) (h2 k) (h3 _), ss_asg x2 y2⟩
theorem q_add (hK : ∀ i, (X i).K = K) : Q2 K X (binaryOp .Add) addX := ⟨_, fun i => kAdd (hK i), p2_addX⟩
theorem q_sub : Q2 K X (binaryOp .Sub) subI := ⟨_, fun _ => op_sub, p2_sub⟩
theorem q_mul : Q2 K X (binaryOp .Mult) mulI := ⟨_, fun _ => op_mulA, p2_mul⟩
theorem q_fdiv : Q2 K X (binaryOp .FloorDiv) fdivI := ⟨_, fun _ => op_fdivA, p2_fdiv⟩
theorem q_mod : Q2 K X (binaryOp .Mod) modI := ⟨_, fun _ => op_mod, p2_mod⟩
theorem q_pow : Q2 K X (binaryOp .Pow) powI := ⟨_, fun _ => op_pow, p2_pow⟩
theorem q_lt : Q2 K X (compareOp .Lt) ltI := ⟨_, fun _ => op_lt, p2_lt⟩
theorem q_le : Q2 K X (compareOp .LtE) leI := ⟨_, fun _ => op_le, p2_le⟩
theorem q_gt : Q2 K X (compareOp .Gt) gtI := ⟨_, fun _ => op_gt, p2_gt⟩
theorem q_ge : Q2 K X (compareOp .GtE) geI := ⟨_, fun _ => op_ge, p2_ge⟩
theorem q_eq (hK : ∀ i, (X i).K = K) (hu : ∀ i, (X i).A.units + 64 < cLine) : Q2 K X (compareOp .Eq) (eqX false) := ⟨_, fun i => kEq (hK i) (hu i), p2_eqX⟩
theorem q_ne (hK : ∀ i, (X i).K = K) (hu : ∀ i, (X i).A.units + 64 < cLine) : Q2 K X (compareOp .NotEq) (eqX true) := ⟨_, fun i => kNe (hK i) (hu i), p2_neX⟩
theorem q_ix (hK : ∀ i, (X i).K = K) : QI K X ixF := ⟨_, fun i => kIx (hK i), p2_ixK⟩
theorem q_len (hK : ∀ i, (X i).K = K) : QN K X (.builtin "len") lenF := ⟨_, fun i => kLen (hK i), pn_lenK⟩
theorem q_tuple (hK : ∀ i, (X i).K = K) : QN K X (.type "tuple") tupleF := ⟨_, fun i => kTuple (hK i), pn_tupleK⟩
theorem q_set : QS K X setF := ⟨_, fun _ => set_list, p3_set⟩
end
section
variable {P : Program} {w : World} {K : PySem.W.Frag} {mg : Str → Option Value}
theorem Def.okG {base : Heap} {x : Str} {st : Stmt} {N ps : List Str} {k : Nat} {b : SF} (D : Def K mg x st) (S : FnScope N ps (defScope st))
    (hb : ∀ (kV doc pm : Value) (an : Option Addr) (cdv ct : Value) (us : List Value), us.length = ps.length → bindArgs (PySem.W.fnOf x x (defArgs st) (defBody st) (defScope st) .none kV doc pm an cdv ct) ⟨us, []⟩ = pure (ps.zip us))
    (hbody : ∀ (f : Addr) (cdv : Value) (A : Around) (outer : List Env) (s : Shared) (H : Hp) (E : XK), Room k (A.deeper (envOfC x (defScope st) s.heap.objs.size f cdv)) →
      ML K (fun _ : Unit => (cxOf CX0 P w K mg base N x (defScope st) f cdv A outer s H E).nox) (defBody st) b) : Callee P w K mg base (k + 1) x ps (spM K (fnF ps.length N.length b)) :=
  D.okM S hb fun f cdv A outer s H E hr => by
    obtain ⟨t, h1, h2⟩ := (hbody f cdv A outer s H E hr).ex
    exact ⟨t, h1 (), h2⟩
theorem Def.okLG {x p : Str} {st : Stmt} {N : List Str} {k : Nat} {b : SF} {F : FN} (D : Def K mg x st) (S : FnScope N [p] (defScope st)) (hF : F = fnF 1 N.length b)
    (hb : ∀ (kV doc pm : Value) (an : Option Addr) (cdv ct : Value) (us : List Value), us.length = [p].length → bindArgs (PySem.W.fnOf x x (defArgs st) (defBody st) (defScope st) .none kV doc pm an cdv ct) ⟨us, []⟩ = pure ([p].zip us))
    (hbody : ∀ (base : Heap) (f : Addr) (cdv : Value) (A : Around) (outer : List Env) (s : Shared) (H : Hp) (E : XK), Room k (A.deeper (envOfC x (defScope st) s.heap.objs.size f cdv)) →
      ML K (fun _ : Unit => (cxOf CX0 P w K mg base N x (defScope st) f cdv A outer s H E).nox) (defBody st) b) :
    ∃ f fd, mg x = some (.ref f) ∧ (∀ (s : Shared) (u : Value), BindsTo s fd ⟨[u], []⟩ [(p, u)]) ∧ ∀ base, FnOk P w K mg base CX0 (k + 1) f fd [p] (spM K F) :=
  D.okL S hF hb fun base f cdv A outer s H E hr => by
    obtain ⟨t, h1, h2⟩ := (hbody base f cdv A outer s H E hr).ex
    exact ⟨t, h1 (), h2⟩
end
end L2

end

section
set_option Elab.async false
set_option linter.all false
set_option maxRecDepth 100000
set_option maxHeartbeats 4000000
namespace HT
open PySem PyProof.Rows PySem.Spec
section
variable {prog : Program} {w : World} {A : Around} {E : Value → Shared → Prop} {s : Shared}
theorem getItem_tuple_whole {t sl : Addr} {items : Array Value} {vl vu : Value} {lo hi : Option Int} {Q : Value → Shared → Prop} (ht : IsTup s.heap t items) (hs : s.heap.IsSliceOf sl vl vu .none) (pl : IsPart vl lo) (pu : IsPart vu hi)
    (hw : sIx items.size 0 lo = 0 ∧ sIx items.size items.size hi = items.size) (h : Q (.ref t) s) : wpAny (model prog w) A (getItem (.ref t) (.ref sl)) Q E s := by
  obtain ⟨os, hos, hcs, hds⟩ := id hs
  have hTs : s.TypeIs (.ref sl) "slice" := ⟨os, hos, hcs⟩
  unfold getItem
  try with_reducible refine wpAny_holding ?_
  first | refine wpAny_bind (wpAny_pure ?_) | skip
  refine wpAny_bind (wpAny_sequenceKey ht.typeIs (by decide) ?_)
  refine wpAny_bind (wpAny_callSpecial?_slot (name := Str.ofString "__getitem__") ht.typeIs PyProof.Rows.slot_tuple_getitem
    (wpAny_call_entry PyProof.Rows.slot_tuple_getitem ht.typeIs entry_tuple_getitem ?_ (args_tuple_getitem _ _)))
  show wpAny _ _ (Builtin.Tuple.tupleItemsOf (.ref t) >>= _) _ _ s
  refine wpAny_bind (tupleItemsOf_ ht ?_)
  refine wpAny_bind (wpAny_typeOf hTs ?_)
  rw [if_pos (by decide)]
  refine wpAny_bind (sliceApplied_gen hs pl pu ?_)
  have hyes : (((sIx items.size 0 lo : Nat) : Int) == 0 && (1 : Int) == 1 && (sIx items.size items.size hi - sIx items.size 0 lo) == items.size) = true := by
    rw [hw.1, hw.2]; simp
  show wpAny _ _ (if (((sIx items.size 0 lo : Nat) : Int) == 0 && (1 : Int) == 1 && (sIx items.size items.size hi - sIx items.size 0 lo) == items.size) = true then _ else _) _ _ s
  rw [if_pos hyes]
  refine wpAny_bind (m := Builtin.Tuple.tupleIsExact (.ref t)) ?_
  unfold Builtin.Tuple.tupleIsExact
  refine wpAny_bind (wpAny_typeOf ht.typeIs (wpAny_pure ?_))
  rw [if_pos (by decide)]
  exact wpAny_bind (wpAny_rule (wpAny_pure ⟨_, rfl, wpAny_pure h⟩))
end
end HT
namespace L2
open PySem PySem.Spec PyProof.Rows
def rSlW (K : PySem.W.Frag) : V → Option Int → Option Int → Hp → VK → Prop := fun x lo hi H Q => ∃ a xs, x = .ref a ∧ SqT K H a xs ∧ (HT.sIx xs.length 0 lo = 0 ∧ HT.sIx xs.length xs.length hi = xs.length) ∧ Q (.ref a) H
theorem sl_whole {X : Cx} : SlR X (rSlW X.K) := by
  intro pins s σ H x v vl vu lo hi sl Q I rx hs pl pu h
  obtain ⟨a, xs, rfl, hx, hw, q⟩ := h
  cases rx
  obtain ⟨its, r, ht, hz⟩ := I.tuple hx
  have hlen : its.toArray.size = xs.length := by rw [List.size_toArray]; exact r.length.symm
  refine ⟨"tuple", _, PyProof.Rows.slot_tuple_getitem.lookup, ht.typeIs, ?_⟩
  exact HT.getItem_tuple_whole ht hs pl pu (by rw [hlen]; exact hw) ⟨.ref a, H, I, rfl, q⟩
def cutL {α : Type} (xs : List α) (lo hi : Option Int) : List α := (xs.drop (HT.sIx xs.length 0 lo)).take (HT.sIx xs.length xs.length hi - HT.sIx xs.length 0 lo)
abbrev OF := Ga → Sto → Option (Option Int × Sto)
def fNoPart : OF := fun _ M => some (none, M)
def asI : CD → Option Int
  | .d (.int i) => some i
  | _ => none
def fPart (f : EF) : OF := fun γ M => (f γ M).bind fun r => (asI r.1).bind fun i => some (some i, r.2)
def slF (x : CD) (lo hi : Option Int) (M : Sto) : Option (CD × Sto) := match x with
  | .d (.list ds) => some (.d (.list (cutL ds lo hi)), M)
  | .d (.tuple ds) => some (.d (.tuple (cutL ds lo hi)), M)
  | .c i => match M[i]? with
    | some (.lst xs) => (allD (cutL xs lo hi)).bind fun ds => some (.d (.list ds), M)
    | _ => none
  | _ => none
def fSl (f : EF) (l u : OF) : EF := fun γ M => (f γ M).bind fun r => (l γ r.2).bind fun p => (u γ p.2).bind fun q => slF r.1 p.1 q.1 q.2
def rSlX (K : PySem.W.Frag) : V → Option Int → Option Int → Hp → VK → Prop := fun x lo hi H Q => rSlL K x lo hi H Q ∨ rSlT K x lo hi H Q ∨ rSlW K x lo hi H Q
theorem kSl {X : Cx} {K : PySem.W.Frag} (h : X.K = K) : SlR X (rSlX K) := by subst h; exact sl_list.or (sl_tup.or sl_whole)
section
variable {K : PySem.W.Frag}
def SO (K : PySem.W.Frag) (t : TO) (f : OF) : Prop := ∀ γ M b M', f γ M = some (b, M') → ∀ (W : Wd) (H : Hp) (σ : St) (Q : Option Int → Hp → Prop), Good K W M H → RepS K W γ σ → (∀ W' H', W.Ext W' → Good K W' M' H' → Q b H') → t σ H Q
theorem so_none : SO K tNoPart fNoPart := by
  intro γ M x M' hh W H σ Q G R k
  cases hh
  exact k W H (.refl _) G
theorem asI_of {x : CD} {i : Int} (h : asI x = some i) : x = .d (.int i) := by
  cases x with
  | c n => cases h
  | d x => cases x <;> first | cases h; rfl | cases h
theorem so_part {ta : TE} {f : EF} (a : SE K ta f) : SO K (tPart ta) (fPart f) := by
  intro γ M x M' hh W H σ Q G R k
  obtain ⟨⟨y, M1⟩, h1, hh⟩ := bindE hh
  obtain ⟨i, h2, hh⟩ := bindE hh
  cases hh
  refine a _ _ _ _ h1 W H σ _ G R fun v W1 H1 e1 G1 r1 => ?_
  have hy : y = _ := asI_of h2
  subst hy
  exact ⟨i, r1, k W1 H1 e1 G1⟩
theorem RepAll.drop {H : Hp} : ∀ {ds : List PyData} {vs : List V} (n : Nat), RepAll K H ds vs → RepAll K H (ds.drop n) (vs.drop n)
  | _, _, 0, h => h
  | [], vs, n + 1, h => by rw [show vs = [] from h]; rfl
  | d :: ds, vs, n + 1, h => by
    obtain ⟨v, r, rfl, _, h3⟩ := h
    exact RepAll.drop n h3
theorem RepAll.take {H : Hp} : ∀ {ds : List PyData} {vs : List V} (n : Nat), RepAll K H ds vs → RepAll K H (ds.take n) (vs.take n)
  | _, _, 0, h => rfl
  | [], vs, n + 1, h => by rw [show vs = [] from h]; rfl
  | d :: ds, vs, n + 1, h => by
    obtain ⟨v, r, rfl, h2, h3⟩ := h
    exact ⟨v, r.take n, rfl, h2, RepAll.take n h3⟩
theorem RepAll.cut {H : Hp} {ds : List PyData} {vs : List V} (h : RepAll K H ds vs) (lo hi : Option Int) : RepAll K H (cutL ds lo hi) (cutV vs lo hi) := by
  unfold cutL cutV
  rw [h.length]
  exact (h.drop _).take _
theorem PairedDrop {α β : Type} {R : α → β → Prop} : ∀ {xs : List α} {ys : List β} (n : Nat), Paired R xs ys → Paired R (xs.drop n) (ys.drop n)
  | _, _, 0, h => h
  | _, _, _ + 1, .nil => .nil
  | _, _, n + 1, .cons _ t => PairedDrop n t
theorem PairedTake {α β : Type} {R : α → β → Prop} : ∀ {xs : List α} {ys : List β} (n : Nat), Paired R xs ys → Paired R (xs.take n) (ys.take n)
  | _, _, 0, h => .nil
  | _, _, _ + 1, .nil => .nil
  | _, _, n + 1, .cons r t => .cons r (PairedTake n t)
theorem PairedCut {W : Wd} {xs : List CD} {vs : List V} (h : RepVs K W xs vs) (lo hi : Option Int) : RepVs K W (cutL xs lo hi) (cutV vs lo hi) := by
  unfold cutL cutV
  rw [Paired.len h]
  exact PairedTake _ (PairedDrop _ h)
theorem sl_sound {x : CD} {lo hi : Option Int} {M : Sto} {z : CD} {M' : Sto} (h : slF x lo hi M = some (z, M')) {W : Wd} {H : Hp} {v : V} {Q : VK} (G : Good K W M H) (rx : RepV K W x v) (k : ∀ w W' H', W.Ext W' → Good K W' M' H' → RepV K W' z w → Q w H') : rSlX K v lo hi H Q := by
  unfold slF at h
  split at h
  · rename_i ds
    cases h
    obtain ⟨p, us, rfl, hq, hr⟩ := (show ∃ a us, _ = V.ref a ∧ SqL K W.F a us ∧ RepAll K W.F ds us from rx)
    refine .inl ⟨p, us, rfl, G.fh.seq hq, fun l hl => ?_⟩
    obtain ⟨e2, G2⟩ := G.lay (o := .lst (cutV us lo hi)) hl
    exact k _ _ _ e2 G2 ⟨l, _, rfl, SqL.of upd_same, RepAll.same e2.ff _ _ (hr.cut lo hi)⟩
  · rename_i ds
    cases h
    obtain ⟨p, us, rfl, hq, hr⟩ := (show ∃ a us, _ = V.ref a ∧ SqT K W.F a us ∧ RepAll K W.F ds us from rx)
    by_cases hw : HT.sIx us.length 0 lo = 0 ∧ HT.sIx us.length us.length hi = us.length
    · refine .inr (.inr ⟨p, us, rfl, G.fh.seqT hq, hw, ?_⟩)
      have e : cutL ds lo hi = ds := by
        unfold cutL
        rw [hr.length, hw.1, hw.2, ← hr.length]
        simp
      rw [e] at k
      exact k _ W H (.refl _) G ⟨p, us, rfl, hq, hr⟩
    · refine .inr (.inl ⟨p, us, rfl, G.fh.seqT hq, hw, fun l hl => ?_⟩)
      obtain ⟨e2, G2⟩ := G.lay (o := .tup (cutV us lo hi)) hl
      exact k _ _ _ e2 G2 ⟨l, _, rfl, SqT.of upd_same, RepAll.same e2.ff _ _ (hr.cut lo hi)⟩
  · rename_i i
    split at h
    · rename_i xs hx
      obtain ⟨ds, h1, h⟩ := bindE h
      cases h
      obtain ⟨us, hv, hr⟩ := G.lstAt hx
      rw [rx.2]
      refine .inl ⟨_, us, rfl, SqL.of hv, fun l hl => ?_⟩
      obtain ⟨e2, G2⟩ := G.lay (o := .lst (cutV us lo hi)) hl
      exact k _ _ _ e2 G2 ⟨l, _, rfl, SqL.of upd_same, RepAll.same e2.ff _ _ (repAll_of h1 (PairedCut hr lo hi))⟩
    · cases h
  · cases h
theorem se_sl {ta : TE} {f : EF} {tl th : TO} {l u : OF} (a : SE K ta f) (b : SO K tl l) (c : SO K th u) : SE K (tSl (rSlX K) ta tl th) (fSl f l u) := by
  intro γ M x M' hh W H σ Q G R k
  obtain ⟨⟨y, M1⟩, h1, hh⟩ := bindE hh
  obtain ⟨⟨p, M2⟩, h2, hh⟩ := bindE hh
  obtain ⟨⟨q, M3⟩, h3, hh⟩ := bindE hh
  refine a _ _ _ _ h1 W H σ _ G R fun v W1 H1 e1 G1 r1 => ?_
  refine b _ _ _ _ h2 W1 H1 σ _ G1 (R.up e1) fun W2 H2 e2 G2 => ?_
  refine c _ _ _ _ h3 W2 H2 σ _ G2 (R.up (e1.trans e2)) fun W3 H3 e3 G3 => ?_
  exact sl_sound hh G3 (r1.up (e2.trans e3)) fun w W4 H4 e4 G4 r4 => k w W4 H4 (((e1.trans e2).trans e3).trans e4) G4 r4
def intF : FN := fun xs M => match xs with
  | [.d (.int i)] => some (.d (.int i), M)
  | [.d (.bool b)] => some (.d (.int (if b then 1 else 0)), M)
  | _ => none
def tyB (T : String) (M : Sto) : CD → Bool
  | .d (.list _) => T == "list"
  | .d (.str _) => T == "str"
  | .c i => match M[i]? with
    | some (.lst _) => T == "list"
    | some (.dk _) => T == "dict"
    | some (.dt _) => T == "dict"
    | _ => false
  | _ => false
theorem tyB_of {T : String} {M : Sto} {x : CD} {W : Wd} {H : Hp} {v : V} (h : tyB T M x = true) (G : Good K W M H) (r : RepV K W x v) : tyV K T v H := by
  unfold tyB at h
  split at h
  · rename_i ds
    obtain ⟨p, us, rfl, hq, hr⟩ := (show ∃ a us, _ = V.ref a ∧ SqL K W.F a us ∧ RepAll K W.F ds us from r)
    exact .inl ⟨eq_of_beq h, us, G.fh.seq hq⟩
  · rename_i x
    rw [show v = .str x from r]
    exact eq_of_beq h
  · rename_i i
    rw [r.2]
    split at h
    · rename_i xs hx
      obtain ⟨us, hv, hr⟩ := G.lstAt hx
      exact .inl ⟨eq_of_beq h, us, SqL.of hv⟩
    · rename_i kvs hx
      obtain ⟨_, o, g2, g3⟩ := G.cs i _ hx (by intro z; cases z)
      cases o with
      | dK us => exact .inr (.inr (.inl ⟨eq_of_beq h, .inl ⟨us, g2⟩⟩))
      | _ => exact False.elim g3
    · rename_i kvs hx
      obtain ⟨_, o, g2, g3⟩ := G.cs i _ hx (by intro z; cases z)
      cases o with
      | dT us => exact .inr (.inr (.inl ⟨eq_of_beq h, .inr ⟨us, g2⟩⟩))
      | _ => exact False.elim g3
    · cases h
  · cases h
abbrev FM := CD → List CD → Sto → Option (CD × Sto)
def fMeth (T : String) (h : FM) (f : EF) (fa : AF) : EF := fun γ M => (f γ M).bind fun r => if tyB T r.2 r.1 = true then (fa γ r.2).bind fun q => h r.1 q.1 q.2 else none
def PM (K : PySem.W.Frag) (r : V → List V → Hp → VK → Prop) (f : FM) : Prop := ∀ x xs M z M', f x xs M = some (z, M') → ∀ (W : Wd) (H : Hp) (v : V) (vs : List V) (Q : VK), Good K W M H → RepV K W x v → RepVs K W xs vs → (∀ w W' H', W.Ext W' → Good K W' M' H' → RepV K W' z w → Q w H') → r v vs H Q
theorem se_meth {T : String} {r : V → List V → Hp → VK → Prop} {h : FM} {ta : TE} {f : EF} {tA : TA} {fa : AF} (p : PM K r h) (a : SE K ta f) (b : SA K tA fa) : SE K (tBM K T r ta tA) (fMeth T h f fa) := by
  intro γ M x M' hh W H σ Q G R k
  obtain ⟨⟨y, M1⟩, h1, hh⟩ := bindE hh
  by_cases hT : tyB T M1 y = true
  · have hh : (if tyB T M1 y = true then (fa γ M1).bind fun q => h y q.1 q.2 else none) = some (x, M') := hh
    rw [if_pos hT] at hh
    obtain ⟨⟨ys, M2⟩, h2, hh⟩ := bindE hh
    refine a _ _ _ _ h1 W H σ _ G R fun v W1 H1 e1 G1 r1 => ⟨tyB_of hT G1 r1, ?_⟩
    refine b _ _ _ _ h2 W1 H1 σ _ G1 (R.up e1) fun vs W2 H2 e2 G2 r2 => ?_
    exact p _ _ _ _ _ hh W2 H2 v vs Q G2 (r1.up e2) r2 fun w W3 H3 e3 G3 r3 => k w W3 H3 ((e1.trans e2).trans e3) G3 r3
  · have hh : (if tyB T M1 y = true then (fa γ M1).bind fun q => h y q.1 q.2 else none) = some (x, M') := hh
    rw [if_neg hT] at hh; cases hh
def appendF : FM := fun x ys M => match x, ys with
  | .c i, [y] => match M[i]? with
    | some (.lst xs) => if xs.length < sizeLine then some (.d .none, M.set i (.lst (xs ++ [y]))) else none
    | _ => none
  | _, _ => none
theorem pm_append : PM K rAppend appendF := by
  intro x ys M z M' h W H v vs Q G rx rs k
  unfold appendF at h
  split at h
  · rename_i i y
    split at h
    · rename_i xs hx
      by_cases hl : xs.length < sizeLine
      · rw [if_pos hl] at h
        cases h
        obtain ⟨us, hv, hr⟩ := G.lstAt hx
        rcases rs with _ | ⟨r1, _ | _⟩
        refine ⟨W.α i, us, _, rx.2, rfl, hv, by rw [← Paired.len hr]; exact hl, ?_⟩
        exact k _ W _ (.refl _) (G.set hx (by intro q; cases q) (c' := .lst (xs ++ [y])) (show RepVs K W _ _ from Paired.app hr (.cons r1 .nil))) rfl
      · rw [if_neg hl] at h; cases h
    · cases h
  · cases h
end
section
variable {ι : Type} {K : PySem.W.Frag} {X : ι → Cx} {a b c e o : Expr} {es : List Expr} {f g h : EF} {fa : AF} {pos : Pos}
structure MO (K : PySem.W.Frag) (X : ι → Cx) (e : Option Expr) (f : OF) : Prop where
  ex : ∃ t, (∀ i, PO (X i) e t) ∧ SO K t f
theorem mo_none : MO K X none fNoPart := ⟨_, fun _ => po_none, so_none⟩
theorem mo_some (x : ME K X e f) : MO K X (some e) (fPart f) := by
  obtain ⟨t, x1, x2⟩ := x.ex
  exact ⟨_, fun i => po_some (x1 i), so_part x2⟩
theorem me_sl {lo hi : Option Expr} {l u : OF} {p2 : Pos} (hK : ∀ i, (X i).K = K) (x : ME K X a f) (y : MO K X lo l) (z : MO K X hi u) : ME K X (.Subscript a (.Slice lo hi none p2) pos) (fSl f l u) := by
  obtain ⟨t, x1, x2⟩ := x.ex; obtain ⟨t', y1, y2⟩ := y.ex; obtain ⟨t'', z1, z2⟩ := z.ex
  exact ⟨_, fun i => pe_slice (kSl (hK i)) (x1 i) (y1 i) (z1 i), se_sl x2 y2 z2⟩
theorem me_append {apos cpos : Pos} (hK : ∀ i, (X i).K = K) (x : ME K X o f) (y : MA K X [e] fa) (hb : ∀ env : Env, attributeBase o "append" env (eval o env) = eval o env := by intro _; rfl) (hl : (apos.endLine == cpos.line) = true := by rfl) :
    ME K X (.Call (.Attribute o "append" apos) [e] [] cpos) (fMeth "list" appendF f fa) := by
  obtain ⟨t, x1, x2⟩ := x.ex; obtain ⟨u, y1, y2⟩ := y.ex
  refine ⟨_, fun i => ?_, se_meth pm_append x2 y2⟩
  have := pe_bm PySem.F.plainAttrs_list PySem.F.slot_list_append PySem.F.type_list_append mt_append (x1 i) (y1 i) (apos := apos) (cpos := cpos) (hb _) (by rw [y.st.1]; rfl) hl (y.st.1 _) (y.st.2.plain _ _)
  rw [hK i] at this
  exact this
end
end L2

end

section
set_option Elab.async false
set_option linter.all false
set_option maxRecDepth 100000
set_option maxHeartbeats 4000000
namespace L2
open PySem PySem.Spec PyProof.Rows
def rRepr (K : PySem.W.Frag) : List V → Hp → VK → Prop := fun xs H Q => ∃ x d, xs = [x] ∧ Rep K H d x ∧ d.showable = true ∧ d.depth ≤ 64 ∧ d.shown.length ≤ sizeLine ∧ Q (.str d.shown) H
theorem kRepr {X : Cx} {K : PySem.W.Frag} (hK : X.K = K) (hg : X.A.guards = some []) (hu : X.A.units + 200 < cLine) : CallR X (.builtin "repr") (rRepr K) := by
  subst hK
  intro pins s σ H xs us Q I r h
  obtain ⟨x, d, rfl, hd, hs, hp, hz, q⟩ := h
  obtain ⟨u, rfl, ru⟩ := vals1 r
  have big : ∀ a, u = .ref a → wpAny (model X.prog X.w) X.A (call (.builtin "repr") [u]) (EP X pins σ Q) X.xe s := fun a e => by
    subst e
    obtain ⟨as, hr, hn⟩ := Rep.reads' I d x _ hd ru
    exact repr_of_reads' hr hs (fun _ => hn) hg (by omega) (fun _ _ e => e) (fun h' u' tk hk => ⟨.str d.shown, H, I.kept (h' := h') (t' := tk) hk, ⟨_, rfl⟩, q⟩) hz
  cases d with
  | none =>
    rw [show x = .non from hd] at ru
    cases (show u = Value.none from ru)
    exact PySem.P.repr_of_none ⟨.str _, H, I.tok _, ⟨_, rfl⟩, q⟩
  | bool b =>
    rw [show x = .bl b from hd] at ru
    cases (show u = Value.bool b from ru)
    refine PySem.P.repr_of_bool ⟨.str _, H, I.tok _, ⟨_, rfl⟩, ?_⟩
    cases b <;> exact q
  | int i =>
    rw [show x = .int i from hd] at ru
    obtain ⟨t, rfl⟩ := (show ∃ t, u = Value.int i t from ru)
    exact PySem.P.repr_of_int (of_decide_eq_true hs) ⟨.str _, H, I.tok _, ⟨_, rfl⟩, q⟩
  | str y =>
    rw [show x = .str y from hd] at ru
    obtain ⟨t, rfl⟩ := (show ∃ t, u = Value.str y t from ru)
    exact PySem.P.repr_of_str ⟨.str _, H, I.tok _, ⟨_, rfl⟩, q⟩ hz
  | list ds => obtain ⟨a, vs, e, _, _⟩ := hd; subst e; exact big a ru
  | tuple ds => obtain ⟨a, vs, e, _, _⟩ := hd; subst e; exact big a ru
  | dict ds => obtain ⟨a, vs, e, _, _⟩ := hd; subst e; exact big a ru
def shownOk (d : PyData) : Bool := d.showable && decide (d.depth ≤ 64) && decide (d.shown.length ≤ sizeLine)
def reprF : FN := fun xs M => match xs with
  | [.d x] => if shownOk x = true then some (.d (.str x.shown), M) else none
  | _ => none
theorem Room.u200 {k : Nat} {A : Around} (r : Room k A) : A.units + 200 < cLine := by have := r.un; omega
theorem Def.okNone {P : Program} {w : World} {K : PySem.W.Frag} {mg : Str → Option Value} {base : Heap} {x : Str} {st : Stmt} {N ps : List Str} {k : Nat} (D : Def K mg x st) (S : FnScope N ps (defScope st))
    (hb : ∀ (kV doc pm : Value) (an : Option Addr) (cdv ct : Value) (us : List Value), us.length = ps.length → bindArgs (PySem.W.fnOf x x (defArgs st) (defBody st) (defScope st) .none kV doc pm an cdv ct) ⟨us, []⟩ = pure (ps.zip us)) :
    Callee P w K mg base (k + 1) x ps (spM K fun _ _ => none) := by
  refine D.ok S hb (fun vs H Q E h => ?_) fun f cdv A outer s H vs Q E hr h => ?_
  · obtain ⟨xs, M, W, y, M', G, R, hf, _⟩ := h; cases hf
  · obtain ⟨xs, M, W, y, M', G, R, hf, _⟩ := h; cases hf
end L2

end

section
set_option Elab.async false
set_option linter.all false
set_option maxRecDepth 100000
set_option maxHeartbeats 4000000
namespace L2
open PySem PySem.Spec PyProof.Rows
def keyOf : CD → Option Key
  | .d (.int i) => some (.inl i)
  | .d (.str x) => some (.inr x)
  | _ => none
section
variable {K : PySem.W.Frag}
theorem keyOf_rep {W : Wd} {x : CD} {k : Key} {v : V} (h : keyOf x = some k) (r : RepV K W x v) : v = kV k := by
  unfold keyOf at h
  split at h
  · cases h; exact r
  · cases h; exact r
  · cases h
end
end L2

end

section
set_option Elab.async false
set_option linter.all false
set_option maxRecDepth 100000
set_option maxHeartbeats 4000000
namespace L2
open PySem PySem.Spec PyProof.Rows
mutual
def wt : PyData → Nat
  | .none => 4
  | .bool _ => 5
  | .int _ => 2000
  | .str x => (reprText x).length
  | .list xs => wtAll xs + 3
  | .tuple xs => wtAll xs + 3
  | .dict kvs => wtKv kvs + 3
def wtAll : List PyData → Nat
  | [] => 0
  | x :: xs => wt x + 2 + wtAll xs
def wtKv : List (PyData × PyData) → Nat
  | [] => 0
  | (k, v) :: r => wt k + wt v + 4 + wtKv r
end
mutual
def oks : PyData → Bool
  | .none => true
  | .bool _ => true
  | .int i => decide (i.natAbs < 2 ^ 1900)
  | .str _ => true
  | .list xs => oksAll xs
  | .tuple xs => oksAll xs
  | .dict kvs => oksKv kvs
def oksAll : List PyData → Bool
  | [] => true
  | x :: xs => oks x && oksAll xs
def oksKv : List (PyData × PyData) → Bool
  | [] => true
  | (k, v) :: r => oks k && oks v && oksKv r
end
theorem int_log {i : Int} (h : i.natAbs < 2 ^ 1900) : i.natAbs.log2 < 1900 := by
  by_cases h0 : i.natAbs = 0
  · rw [h0]; decide +kernel
  · exact (Nat.log2_lt h0).mpr h
theorem int_len {i : Int} (h : i.natAbs < 2 ^ 1900) : ((toString i : String) : Str).length ≤ 2000 := by
  have h1 := int_text_length_le (k := 1900) (by decide) (int_log h)
  show (Str.ofString (toString i)).length ≤ 2000
  rw [PySem.ofString_length]
  omega
mutual
theorem shown_le : ∀ d : PyData, oks d = true → d.shown.length ≤ wt d
  | .none, _ => by decide
  | .bool b, _ => by cases b <;> decide
  | .int i, h => int_len (of_decide_eq_true h)
  | .str x, _ => Nat.le_refl _
  | .list xs, h => by
    have := shownAll_le xs h
    have h2 := listText_len_le (PyData.shownAll xs)
    show (listText (PyData.shownAll xs)).length ≤ wtAll xs + 3
    omega
  | .tuple xs, h => by
    have := shownAll_le xs h
    have h2 := tupleText_len_le (PyData.shownAll xs)
    show (tupleText (PyData.shownAll xs)).length ≤ wtAll xs + 3
    omega
  | .dict kvs, h => by
    have := shownKv_le kvs h
    have h2 := dictText_len_le (PyData.shownKv kvs)
    show (dictText (PyData.shownKv kvs)).length ≤ wtKv kvs + 3
    omega
theorem shownAll_le : ∀ xs : List PyData, oksAll xs = true → ((PyData.shownAll xs).map (·.length)).sum + 2 * (PyData.shownAll xs).length ≤ wtAll xs
  | [], _ => by simp [PyData.shownAll, wtAll]
  | x :: xs, h => by
    unfold oksAll at h
    rw [Bool.and_eq_true] at h
    have h1 := shown_le x h.1
    have h2 := shownAll_le xs h.2
    simp only [PyData.shownAll, wtAll, List.map_cons, List.sum_cons, List.length_cons]
    omega
theorem shownKv_le : ∀ kvs : List (PyData × PyData), oksKv kvs = true → ((PyData.shownKv kvs).map (·.length)).sum + 2 * (PyData.shownKv kvs).length ≤ wtKv kvs
  | [], _ => by simp [PyData.shownKv, wtKv]
  | (k, v) :: r, h => by
    unfold oksKv at h
    rw [Bool.and_eq_true, Bool.and_eq_true] at h
    have h1 := shown_le k h.1.1
    have h2 := shown_le v h.1.2
    have h3 := shownKv_le r h.2
    have e : (PyData.shown k ++ ": " ++ PyData.shown v).length = (PyData.shown k).length + 2 + (PyData.shown v).length := by
      rw [strLen_append, strLen_append]; rfl
    simp only [PyData.shownKv, wtKv, List.map_cons, List.sum_cons, List.length_cons, e]
    omega
end
mutual
theorem showable_of : ∀ d : PyData, oks d = true → d.showable = true
  | .none, _ => rfl
  | .bool _, _ => rfl
  | .int i, h => by
    have h : i.natAbs < 2 ^ 1900 := of_decide_eq_true h
    refine decide_eq_true ?_
    by_cases h0 : i.natAbs = 0
    · rw [h0]; decide +kernel
    · exact Nat.lt_trans ((Nat.log2_lt h0).mpr h) (by decide)
  | .str _, _ => rfl
  | .list xs, h => showableAll_of xs h
  | .tuple xs, h => showableAll_of xs h
  | .dict kvs, h => showableKv_of kvs h
theorem showableAll_of : ∀ xs : List PyData, oksAll xs = true → PyData.showableAll xs = true
  | [], _ => rfl
  | x :: xs, h => by
    unfold oksAll at h
    rw [Bool.and_eq_true] at h
    show (PyData.showable x && PyData.showableAll xs) = true
    rw [showable_of x h.1, showableAll_of xs h.2]
    rfl
theorem showableKv_of : ∀ kvs : List (PyData × PyData), oksKv kvs = true → PyData.showableKv kvs = true
  | [], _ => rfl
  | (k, v) :: r, h => by
    unfold oksKv at h
    rw [Bool.and_eq_true, Bool.and_eq_true] at h
    show (PyData.showable k && PyData.showable v && PyData.showableKv r) = true
    rw [showable_of k h.1.1, showable_of v h.1.2, showableKv_of r h.2]
    rfl
end
structure Fit (n m : Nat) (d : PyData) : Prop where
  ok : oks d = true
  wt : wt d ≤ n
  dp : d.depth ≤ m
theorem Fit.shown {n m : Nat} {d : PyData} (f : Fit n m d) (hn : n ≤ sizeLine := by decide) (hm : m ≤ 64 := by decide) : shownOk d = true := by
  unfold shownOk
  rw [showable_of d f.ok, decide_eq_true (Nat.le_trans f.dp hm), decide_eq_true (Nat.le_trans (Nat.le_trans (shown_le d f.ok) f.wt) hn)]
  rfl
theorem reprF_of {n m : Nat} {d : PyData} {M : Sto} (f : Fit n m d) (hn : n ≤ sizeLine := by decide) (hm : m ≤ 64 := by decide) : reprF [.d d] M = some (.d (.str d.shown), M) := by
  unfold reprF
  dsimp only
  rw [if_pos (f.shown hn hm)]
end L2

end

section
set_option Elab.async false
set_option linter.all false
set_option maxRecDepth 100000
set_option maxHeartbeats 4000000
namespace L2
open PySem PySem.Spec PyProof.Rows
def putC (f : Str) (v : CD) : List (Str × CD) → List (Str × CD)
  | [] => [(f, v)]
  | (g, x) :: r => if g = f then (g, v) :: r else (g, x) :: putC f v r
section
variable {K : PySem.W.Frag}
theorem put_pair {W : Wd} {f : Str} {x : CD} {v : V} (r : RepV K W x v) : ∀ {fs : List (Str × CD)} {us : List (Str × V)}, Paired (fun p q => p.1 = q.1 ∧ RepV K W p.2 q.2) fs us → Paired (fun p q => p.1 = q.1 ∧ RepV K W p.2 q.2) (putC f x fs) (putF f v us)
  | _, _, .nil => .cons ⟨rfl, r⟩ .nil
  | (g, y) :: fs, (g', u) :: us, .cons h t => by
    obtain ⟨h1, h2⟩ := h
    have h1 : g = g' := h1
    subst h1
    unfold putC putF
    by_cases e : g = f
    · rw [if_pos e, if_pos e]; exact .cons ⟨rfl, r⟩ t
    · rw [if_neg e, if_neg e]; exact .cons ⟨rfl, h2⟩ (put_pair r t)
theorem look_pair {W : Wd} {f : Str} {x : CD} : ∀ {fs : List (Str × CD)} {us : List (Str × V)}, Paired (fun p q => p.1 = q.1 ∧ RepV K W p.2 q.2) fs us → fs.lookup f = some x → ∃ v, us.lookup f = some v ∧ RepV K W x v
  | _, _, .nil, h => by cases h
  | (g, y) :: fs, (g', u) :: us, .cons h t, e => by
    obtain ⟨h1, h2⟩ := h
    have h1 : g = g' := h1
    subst h1
    rw [List.lookup_cons] at e ⊢
    by_cases q : (f == g) = true
    · rw [q] at e ⊢; cases e; exact ⟨u, rfl, h2⟩
    · have q' : (f == g) = false := by simpa using q
      rw [q'] at e ⊢; exact look_pair t e
theorem look_none {W : Wd} {f : Str} : ∀ {fs : List (Str × CD)} {us : List (Str × V)}, Paired (fun p q => p.1 = q.1 ∧ RepV K W p.2 q.2) fs us → fs.lookup f = none → us.lookup f = none
  | _, _, .nil, h => rfl
  | (g, y) :: fs, (g', u) :: us, .cons h t, e => by
    obtain ⟨h1, h2⟩ := h
    have h1 : g = g' := h1
    subst h1
    rw [List.lookup_cons] at e ⊢
    by_cases q : (f == g) = true
    · rw [q] at e; cases e
    · have q' : (f == g) = false := by simpa using q
      rw [q'] at e ⊢; exact look_none t e
theorem Good.objAt {W : Wd} {M : Sto} {H : Hp} {i : Nat} {nm : Str} {fs : List (Str × CD)} (G : Good K W M H) (h : M[i]? = some (.obj nm fs)) : ∃ dx us, H (W.α i) = some (.ins (clOf K nm) dx us) ∧ Paired (fun p q => p.1 = q.1 ∧ RepV K W p.2 q.2) fs us := by
  obtain ⟨_, o, h2, h3⟩ := G.cs i _ h (by intro z; cases z)
  cases o with
  | ins C dx us =>
    obtain ⟨e, p⟩ := h3
    subst e
    exact ⟨dx, us, h2, p⟩
  | _ => exact False.elim h3
theorem Good.extra {W : Wd} {M : Sto} {H : Hp} (g : Good K W M H) {p : Addr} {o : HO} (hp : H p = none) : Good K W M (upd H p o) := by
  refine ⟨fun b u hb => ?_, g.n, fun i c hi hc => ?_, g.inj⟩
  · have := g.fh b u hb
    rw [upd_ne (ne_of_none this hp)]; exact this
  · obtain ⟨h1, o', h2, h3⟩ := g.cs i c hi hc
    exact ⟨h1, o', by rw [upd_ne (ne_of_none h2 hp)]; exact h2, h3⟩
def objOf (nm : Str) (M : Sto) : CD → Option (Nat × List (Str × CD))
  | .c i => match M[i]? with
    | some (.obj nm' fs) => if nm' = nm then some (i, fs) else none
    | _ => none
  | _ => none
theorem objOf_at {nm : Str} {M : Sto} {x : CD} {i : Nat} {fs : List (Str × CD)} (h : objOf nm M x = some (i, fs)) : x = .c i ∧ M[i]? = some (.obj nm fs) := by
  unfold objOf at h
  split at h
  · rename_i j
    split at h
    · rename_i nm' fs' hj
      by_cases e : nm' = nm
      · rw [if_pos e] at h; cases h; subst e; exact ⟨rfl, hj⟩
      · rw [if_neg e] at h; cases h
    · cases h
  · cases h
def fFld (nm f : Str) (e : EF) : EF := fun γ M => (e γ M).bind fun r => (objOf nm r.2 r.1).bind fun p => (p.2.lookup f).bind fun v => some (v, r.2)
theorem se_fld {nm f : Str} {ta : TE} {e : EF} (c : Cls K (clOf K nm)) (n : NoAttr K (clOf K nm) f) (a : SE K ta e) : SE K (tFld K ta f) (fFld nm f e) := by
  intro γ M x M' hh W H σ Q G R k
  obtain ⟨⟨y, M1⟩, h1, hh⟩ := bindE hh
  obtain ⟨⟨i, fs⟩, h2, hh⟩ := bindE hh
  obtain ⟨v, h3, hh⟩ := bindE hh
  cases hh
  refine a _ _ _ _ h1 W H σ _ G R fun u W1 H1 e1 G1 r1 => ?_
  obtain ⟨rfl, hM⟩ := objOf_at h2
  obtain ⟨dx, us, hH, hp⟩ := G1.objAt hM
  obtain ⟨w, hw, rw'⟩ := look_pair hp h3
  exact ⟨W1.α i, _, dx, us, w, r1.2, hH, c, n, hw, k w W1 H1 e1 G1 rw'⟩
def sFldF (nm f : Str) (eo ev : EF) : SF := fun γ M => (ev γ M).bind fun v => (eo γ v.2).bind fun o => (objOf nm o.2 o.1).bind fun p => if p.2.length < 1000 then some (.nx γ, o.2.set p.1 (.obj nm (putC f v.1 p.2))) else none
theorem ss_fld {nm f : Str} {ta tv : TE} {eo ev : EF} (c : Cls K (clOf K nm)) (n : NoAttr K (clOf K nm) f) (a : SE K ta eo) (b : SE K tv ev) : SS K (sFld K ta tv f) (sFldF nm f eo ev) := by
  intro γ M o M' hh W H σ D G R k
  obtain ⟨⟨y, M1⟩, h1, hh⟩ := bindE hh
  obtain ⟨⟨z, M2⟩, h2, hh⟩ := bindE hh
  obtain ⟨⟨i, fs⟩, h3, hh⟩ := bindE hh
  by_cases hl : fs.length < 1000
  · have hh : (if fs.length < 1000 then some (Out.nx γ, M2.set i (.obj nm (putC f y fs))) else none) = some (o, M') := hh
    rw [if_pos hl] at hh
    cases hh
    refine b _ _ _ _ h1 W H σ _ G R fun v W1 H1 e1 G1 r1 => ?_
    refine a _ _ _ _ h2 W1 H1 σ _ G1 (R.up e1) fun u W2 H2 e2 G2 r2 => ?_
    obtain ⟨rfl, hM⟩ := objOf_at h3
    obtain ⟨dx, us, hH, hp⟩ := G2.objAt hM
    refine ⟨W2.α i, _, dx, us, r2.2, hH, c, n, by rw [← Paired.len hp]; exact hl, ?_⟩
    exact k W2 _ (e1.trans e2) (G2.set hM (by intro q; cases q) (c' := .obj nm (putC f y fs)) (o' := .ins (clOf K nm) dx (putF f v us)) ⟨rfl, put_pair (r1.up e2) hp⟩) σ (R.up (e1.trans e2))
  · have hh : (if fs.length < 1000 then some (Out.nx γ, M2.set i (.obj nm (putC f y fs))) else none) = some (o, M') := hh
    rw [if_neg hl] at hh; cases hh
def isNon : CD → Bool
  | .d .none => true
  | _ => false
def fMake (nm : Str) (h : FN) (fa : AF) : EF := fun γ M => (fa γ M).bind fun r => (h (.c r.2.length :: r.1) (r.2 ++ [.obj nm []])).bind fun q => if isNon q.1 = true then some (.c r.2.length, q.2) else none
theorem isNon_of {x : CD} (h : isNon x = true) : x = .d .none := by
  cases x with
  | c n => cases h
  | d x => cases x <;> first | rfl | cases h
theorem se_make {nm : Str} {h : FN} {tA : TA} {fa : AF} (b : SA K tA fa) : SE K (tMake (clOf K nm) (spM K h) [] E0 tA) (fMake nm h fa) := by
  intro γ M x M' hh W H σ Q G R k
  obtain ⟨⟨ys, M1⟩, h1, hh⟩ := bindE hh
  obtain ⟨⟨z, M2⟩, h2, hh⟩ := bindE hh
  by_cases hz : isNon z = true
  · have hh : (if isNon z = true then some (CD.c M1.length, M2) else none) = some (x, M') := hh
    rw [if_pos hz] at hh
    cases hh
    have hz' := isNon_of hz
    subst hz'
    refine b _ _ _ _ h1 W H σ _ G R fun vs W1 H1 e1 G1 r1 => ?_
    intro p dx hp hdx hne
    rw [List.append_nil]
    have Ga := G1.extra (o := .own p) hdx
    have hp' : (upd H1 dx (.own p)) p = none := by rw [upd_ne (Ne.symm hne)]; exact hp
    have Gb := Ga.new hp' (c := .obj nm []) (o := .ins (clOf K nm) dx []) ⟨rfl, .nil⟩
    have e2 := W1.ext_more p
    refine ⟨.c M1.length :: ys, M1 ++ [.obj nm []], W1.more p, .d .none, M', Gb, .cons G1.newV (RepVs.up r1 e2), h2, fun v W3 H3 e3 G3 r3 => ⟨r3, ?_⟩⟩
    exact k _ W3 H3 ((e1.trans e2).trans e3) G3 (G1.newV.up e3)
  · have hh : (if isNon z = true then some (CD.c M1.length, M2) else none) = some (x, M') := hh
    rw [if_neg hz] at hh; cases hh
def fMethO (nm m : Str) (h : FN) (f : EF) (fa : AF) : EF := fun γ M => (f γ M).bind fun r => (objOf nm r.2 r.1).bind fun p => if p.2.lookup m = none then (fa γ r.2).bind fun q => h (r.1 :: q.1) q.2 else none
theorem se_methO {nm m : Str} {h : FN} {ta : TE} {f : EF} {tA : TA} {fa : AF} (a : SE K ta f) (b : SA K tA fa) : SE K (tMeth (clOf K nm) m (spM K h) [] E0 ta tA) (fMethO nm m h f fa) := by
  intro γ M x M' hh W H σ Q G R k
  obtain ⟨⟨y, M1⟩, h1, hh⟩ := bindE hh
  obtain ⟨⟨i, fs⟩, h2, hh⟩ := bindE hh
  have hh : (if fs.lookup m = none then (fa γ M1).bind fun q => h (y :: q.1) q.2 else none) = some (x, M') := hh
  by_cases hl : fs.lookup m = none
  · rw [if_pos hl] at hh
    obtain ⟨⟨ys, M2⟩, h3, hh⟩ := bindE hh
    refine a _ _ _ _ h1 W H σ _ G R fun v W1 H1 e1 G1 r1 => ?_
    obtain ⟨rfl, hM⟩ := objOf_at h2
    obtain ⟨dx, us, hH, hp⟩ := G1.objAt hM
    refine ⟨W1.α i, dx, us, r1.2, hH, look_none hp hl, ?_⟩
    refine b _ _ _ _ h3 W1 H1 σ _ G1 (R.up e1) fun vs W2 H2 e2 G2 r2 => ?_
    rw [List.append_nil]
    exact ⟨_, M2, W2, x, M', G2, .cons (r1.up e2) r2, hh, fun w W3 H3 e3 G3 r3 => k w W3 H3 ((e1.trans e2).trans e3) G3 r3⟩
  · rw [if_neg hl] at hh; cases hh
end
structure MCallee (P : Program) (w : World) (K : PySem.W.Frag) (mg : Str → Option Value) (base : Heap) (k : Nat) (nm m : Str) (ps : List Str) (sp : Sp) : Prop where
  ex : ∃ f fd, FnOk P w K mg base CX0 k f fd ps sp ∧ Meth K (clOf K nm) m f ∧ Binds K fd ps []
structure ICallee (P : Program) (w : World) (K : PySem.W.Frag) (mg : Str → Option Value) (base : Heap) (k : Nat) (nm : Str) (ps : List Str) (sp : Sp) : Prop where
  ex : ∃ f fd, FnOk P w K mg base CX0 k f fd ps sp ∧ Mk K (clOf K nm) f ∧ Binds K fd ps [] ∧ mg nm = some (.ref (clOf K nm))
section
variable {ι : Type} {K : PySem.W.Frag} {X : ι → Cx} {a b c e o : Expr} {es : List Expr} {f g h : EF} {fa : AF} {pos : Pos}
theorem me_fld {nm fl : Str} (hK : ∀ i, (X i).K = K) (hc : Cls K (clOf K nm)) (hn : NoAttr K (clOf K nm) fl) (x : ME K X o f) (hb : ∀ env : Env, attributeBase o fl env (eval o env) = eval o env := by intro _; rfl) : ME K X (.Attribute o fl pos) (fFld nm fl f) := by
  obtain ⟨t, x1, x2⟩ := x.ex
  refine ⟨_, fun i => ?_, se_fld hc hn x2⟩
  have := pe_fld (x1 i) (hb _) (pos := pos)
  rw [hK i] at this
  exact this
theorem ms_fld {nm fl : Str} {pos' : Pos} (hK : ∀ i, (X i).K = K) (hc : Cls K (clOf K nm)) (hn : NoAttr K (clOf K nm) fl) (x : ME K X o f) (y : ME K X e g) (hs : ∀ i, swapsWith e (some (.Attribute o fl pos')) pos.line (X i).env = pure false := by intro _; rfl) : MS K X (.Assign [.Attribute o fl pos'] e pos) (sFldF nm fl f g) := by
  obtain ⟨t, x1, x2⟩ := x.ex; obtain ⟨u, y1, y2⟩ := y.ex
  refine ⟨_, fun i => ?_, ss_fld hc hn x2 y2⟩
  have := ps_fld (x1 i) (y1 i) (hs i)
  rw [hK i] at this
  exact this
theorem me_make {k : Nat} {nm : Str} {ps : List Str} {F : FN} {p : Pos} (C : ∀ i, ICallee (X i).prog (X i).w (X i).K (X i).mg (X i).base k nm ps (spM K F)) (hK : ∀ i, (X i).K = K) (hr : ∀ i, Room (k + 1) (X i).A) (y : MA K X (e :: es) fa) (hg : ∀ i, Gl (X i) nm := by intro _; rfl) (hd : (nm == ("__debug__" : Str)) = false := by decide) :
    ME K X (.Call (.Name nm p) (e :: es) [] pos) (fMake nm F fa) := by
  obtain ⟨u, y1, y2⟩ := y.ex
  refine ⟨_, fun i => ?_, se_make y2⟩
  obtain ⟨f, fd, F', M, B, m⟩ := (C i).ex
  have := pe_make M F' (hr i) (hg i) m B .nil pass0 (y1 i) hd (y.st.1 _) (y.st.2.plain _ _) (p := p) (pos := pos)
  rw [hK i] at this
  exact this
theorem me_meth {k : Nat} {nm m : Str} {ps : List Str} {F : FN} {apos : Pos} (C : ∀ i, MCallee (X i).prog (X i).w (X i).K (X i).mg (X i).base k nm m ps (spM K F)) (hK : ∀ i, (X i).K = K) (hc : Cls K (clOf K nm)) (hr : ∀ i, Room k (X i).A) (x : ME K X o f) (y : MA K X (e :: es) fa)
    (ht : ∀ env : Env, ∃ pl : Sem Bool, eval (.Call (.Attribute o m apos) (e :: es) [] pos) env = (do
      let ov ← eval o env
      standAt apos.atName
      let (f, first) ← holding [ov] (getMethod ov m pl)
      callWith pos f first (backTo pos (starEach (e :: es) env)) (backToKw pos (keywordEach [] env))) := by intro _; exact ⟨_, rfl⟩) :
    ME K X (.Call (.Attribute o m apos) (e :: es) [] pos) (fMethO nm m F f fa) := by
  obtain ⟨t, x1, x2⟩ := x.ex; obtain ⟨u, y1, y2⟩ := y.ex
  refine ⟨_, fun i => ?_, se_methO x2 y2⟩
  obtain ⟨f', fd, F', M, B⟩ := (C i).ex
  obtain ⟨pl, hpl⟩ := ht (X i).env
  have hcX : Cls (X i).K (clOf (X i).K nm) := by rw [hK i]; exact hc
  have := pe_meth (x1 i) hcX M F' (hr i) B .nil pass0 (y1 i) (y.st.1 _) (y.st.2.plain _ _) hpl
  rw [hK i] at this
  exact this
end
structure MDef (K : PySem.W.Frag) (nm m qual : Str) (st : Stmt) : Prop where
  ex : ∃ f fd, Fun K m qual st f fd ∧ PySem.W.findIn K (.ref (clOf K nm)) m = some (some (.ref f)) ∧ PySem.W.isFn K (.ref f) = true
section
variable {P : Program} {w : World} {K : PySem.W.Frag} {mg : Str → Option Value} {base : Heap}
theorem Fun.okQ {x qual : Str} {st : Stmt} {N ps : List Str} {k : Nat} {b : SF} {f : Addr} {fd : FuncData} (F : Fun K x qual st f fd) (S : FnScope N ps (defScope st))
    (hbody : ∀ (f : Addr) (cdv : Value) (A : Around) (outer : List Env) (s : Shared) (H : Hp) (E : XK), Room k (A.deeper (envOfC qual (defScope st) s.heap.objs.size f cdv)) →
      ML K (fun _ : Unit => (cxOf CX0 P w K mg base N qual (defScope st) f cdv A outer s H E).nox) (defBody st) b) : FnOk P w K mg base CX0 (k + 1) f fd ps (spM K (fnF ps.length N.length b)) := by
  have len : ∀ vs H Q E, spM K (fnF ps.length N.length b) vs H Q E → vs.length = ps.length := fun vs H Q E h => by
    obtain ⟨xs, M, W, y, M', G, R, hf, _⟩ := h
    by_cases hl : xs.length = ps.length
    · rw [← Paired.len R]; exact hl
    · unfold fnF at hf
      rw [if_neg hl] at hf; cases hf
  refine F.ok S len fun cdv A outer s H vs Q E hr h => ?_
  obtain ⟨t, hP, hS⟩ := (hbody f cdv A outer s H E hr).ex
  refine ⟨t, hP (), ?_⟩
  obtain ⟨xs, M, W, y, M', G, R, hf, k⟩ := h
  by_cases hl : xs.length = ps.length
  · unfold fnF at hf
    rw [if_pos hl] at hf
    obtain ⟨⟨o, M1⟩, h1, hf⟩ := bindE hf
    have hR : RepS K W (xs.map some ++ List.replicate (N.length - xs.length) none) (start N vs) := by
      unfold start
      rw [← Paired.len R]
      exact Paired.app (RepVs.some R) (rep_none _)
    refine hS _ _ _ _ h1 W H _ _ G hR fun W1 H1 e1 G1 => ?_
    cases o with
    | rt x => cases hf; exact fun v r => k v W1 H1 e1 G1 r
    | nx γ => cases hf; exact fun σ r => k .non W1 H1 e1 G1 rfl
    | bk γ => cases hf
    | ct γ => cases hf
  · unfold fnF at hf
    rw [if_neg hl] at hf; cases hf
theorem MDef.okM {nm m qual : Str} {st : Stmt} {N ps : List Str} {k : Nat} {b : SF} (D : MDef K nm m qual st) (S : FnScope N ps (defScope st))
    (hb : ∀ (kV doc pm : Value) (an : Option Addr) (cdv ct : Value) (us : List Value), us.length = ps.length → bindArgs (PySem.W.fnOf m qual (defArgs st) (defBody st) (defScope st) .none kV doc pm an cdv ct) ⟨us, []⟩ = pure (ps.zip us))
    (hbody : ∀ (f : Addr) (cdv : Value) (A : Around) (outer : List Env) (s : Shared) (H : Hp) (E : XK), Room k (A.deeper (envOfC qual (defScope st) s.heap.objs.size f cdv)) →
      ML K (fun _ : Unit => (cxOf CX0 P w K mg base N qual (defScope st) f cdv A outer s H E).nox) (defBody st) b) : MCallee P w K mg base (k + 1) nm m ps (spM K (fnF ps.length N.length b)) := by
  obtain ⟨f, fd, F, h1, h2⟩ := D.ex
  exact ⟨f, fd, F.okQ S hbody, ⟨h1, h2, F.kp⟩, F.binds hb⟩
theorem MDef.okI {nm qual : Str} {st : Stmt} {N ps : List Str} {k : Nat} {b : SF} (D : MDef K nm "__init__" qual st) (hm : PySem.W.makesIn K (clOf K nm) = true) (hk : PySem.W.keepIn K (.ref (clOf K nm)) = true) (hg : mg nm = some (.ref (clOf K nm))) (S : FnScope N ps (defScope st))
    (hb : ∀ (kV doc pm : Value) (an : Option Addr) (cdv ct : Value) (us : List Value), us.length = ps.length → bindArgs (PySem.W.fnOf "__init__" qual (defArgs st) (defBody st) (defScope st) .none kV doc pm an cdv ct) ⟨us, []⟩ = pure (ps.zip us))
    (hbody : ∀ (f : Addr) (cdv : Value) (A : Around) (outer : List Env) (s : Shared) (H : Hp) (E : XK), Room k (A.deeper (envOfC qual (defScope st) s.heap.objs.size f cdv)) →
      ML K (fun _ : Unit => (cxOf CX0 P w K mg base N qual (defScope st) f cdv A outer s H E).nox) (defBody st) b) : ICallee P w K mg base (k + 1) nm ps (spM K (fnF ps.length N.length b)) := by
  obtain ⟨f, fd, F, h1, h2⟩ := D.ex
  exact ⟨f, fd, F.okQ S hbody, ⟨hm, h1, h2, hk⟩, F.binds hb, hg⟩
end
end L2

end

section
set_option Elab.async false
set_option linter.all false
set_option maxRecDepth 100000
set_option maxHeartbeats 4000000
namespace L2
open PySem PySem.Spec PyProof.Rows
section
variable {K : PySem.W.Frag}
def reverseF : FM := fun x ys M => match x, ys with
  | .c i, [] => match M[i]? with
    | some (.lst xs) => some (.d .none, M.set i (.lst xs.reverse))
    | _ => none
  | _, _ => none
def rMax2 : List V → Hp → VK → Prop := fun xs H Q => ∃ i j, xs = [.int i, .int j] ∧ Q (.int (if j > i then j else i)) H
def rMin2 : List V → Hp → VK → Prop := fun xs H Q => ∃ i j, xs = [.int i, .int j] ∧ Q (.int (if j < i then j else i)) H
def max2F : FN := fun xs M => match xs with
  | [.d (.int i), .d (.int j)] => some (.d (.int (if j > i then j else i)), M)
  | _ => none
def min2F : FN := fun xs M => match xs with
  | [.d (.int i), .d (.int j)] => some (.d (.int (if j < i then j else i)), M)
  | _ => none
theorem pn_max2 : PN K rMax2 max2F := by
  intro xs M z M' h W H vs Q G r k
  unfold max2F at h
  split at h
  · rename_i i j
    cases h
    rcases r with _ | ⟨r1, _ | ⟨r2, _ | _⟩⟩
    exact ⟨i, j, by rw [show _ = V.int i from r1, show _ = V.int j from r2], k _ W H (.refl _) G rfl⟩
  · cases h
theorem pn_min2 : PN K rMin2 min2F := by
  intro xs M z M' h W H vs Q G r k
  unfold min2F at h
  split at h
  · rename_i i j
    cases h
    rcases r with _ | ⟨r1, _ | ⟨r2, _ | _⟩⟩
    exact ⟨i, j, by rw [show _ = V.int i from r1, show _ = V.int j from r2], k _ W H (.refl _) G rfl⟩
  · cases h
end
section
variable {ι : Type} {K : PySem.W.Frag} {X : ι → Cx} {a b c e o : Expr} {es : List Expr} {f g h : EF} {fa : AF} {pos : Pos}
theorem q_max2 (hc : ∀ i, (X i).calm = true) : QN K X (.builtin "max") max2F := ⟨_, fun i => call_max2 (hc i), pn_max2⟩
theorem q_min2 (hc : ∀ i, (X i).calm = true) : QN K X (.builtin "min") min2F := ⟨_, fun i => call_min2 (hc i), pn_min2⟩
end
end L2

end

section
set_option Elab.async false
set_option linter.all false
set_option maxRecDepth 100000
set_option maxHeartbeats 4000000
namespace L2
open PySem PySem.W PyProof.Rows
def KS {α : Type} (lt : Nat → Nat → Bool) (n : Nat) : KasT α → (α → Prop) → Prop
  | .ret a, Q => Q a
  | .ask i j k, Q => i < n ∧ j < n ∧ KS lt n (k (lt i j)) Q
theorem KS.bind {α β : Type} {lt : Nat → Nat → Bool} {n : Nat} {f : α → KasT β} {Q : β → Prop} : ∀ {t : KasT α}, KS lt n t (fun a => KS lt n (f a) Q) → KS lt n (t.bind f) Q
  | .ret _, h => h
  | .ask _ _ _, h => ⟨h.1, h.2.1, KS.bind h.2.2⟩
theorem KS.mono {α : Type} {lt : Nat → Nat → Bool} {n : Nat} {Q R : α → Prop} (m : ∀ a, Q a → R a) : ∀ {t : KasT α}, KS lt n t Q → KS lt n t R
  | .ret _, h => m _ h
  | .ask _ _ _, h => ⟨h.1, h.2.1, KS.mono m h.2.2⟩
theorem KS.wp {α : Type} {lt : Nat → Nat → Bool} {n : Nat} {Q : α → Prop} {R : α → Shared → Prop} {s : Shared} {cmp : Nat → Nat → (Bool → Shared → Prop) → Shared → Prop}
    (hc : ∀ i j C, i < n → j < n → C (lt i j) s → cmp i j C s) (m : ∀ a, Q a → R a s) : ∀ {t : KasT α}, KS lt n t Q → KasT.kasWp cmp t R s
  | .ret _, h => m _ h
  | .ask _ _ _, h => hc _ _ _ h.1 h.2.1 (KS.wp hc m h.2.2)
section
variable {lt : Nat → Nat → Bool} {n : Nat}
structure Ord2 (lt : Nat → Nat → Bool) : Prop where
  as : ∀ a b, lt a b = true → lt b a = false
  tr : ∀ a b c, lt b a = false → lt c b = false → lt c a = false
theorem Ord2.up (o : Ord2 lt) {a b c : Nat} (h : lt c a = true) (h' : lt b a = false) : lt c b = true := by
  cases e : lt c b with
  | true => rfl
  | false => rw [o.tr _ _ _ h' e] at h; cases h
def Inv2 (n : Nat) (p : Array Nat) : Prop := p.Perm (List.range n).toArray
theorem Inv2.sz {p : Array Nat} (h : Inv2 n p) : p.size = n := by
  have := (Array.perm_iff_toList_perm.mp h).length_eq
  simpa using this
theorem Inv2.ent {p : Array Nat} (h : Inv2 n p) (h0 : 0 < n) (k : Nat) : p.getD k 0 < n := by
  rw [Array.getD_eq_getD_getElem?]
  cases e : p[k]? with
  | none => exact h0
  | some x =>
    have hm : x ∈ p := Array.mem_of_getElem? e
    have := (h.mem_iff (a := x)).mp hm
    simpa using this
def SortedT (lt : Nat → Nat → Bool) (p : Array Nat) (n : Nat) : Prop := ∀ i j, i < j → j < n → lt (p.getD j 0) (p.getD i 0) = false
def DescT (lt : Nat → Nat → Bool) (p : Array Nat) (n : Nat) : Prop := ∀ i j, i < j → j < n → lt (p.getD i 0) (p.getD j 0) = false
def EqRun (lt : Nat → Nat → Bool) (p : Array Nat) (n q : Nat) : Prop := ∀ i j, n ≤ i + q + 1 → i < j → j < n → lt (p.getD j 0) (p.getD i 0) = false
theorem SortedT.ext (o : Ord2 lt) {p : Array Nat} {m : Nat} (h : SortedT lt p m) (h1 : 1 ≤ m) (h2 : lt (p.getD m 0) (p.getD (m - 1) 0) = false) : SortedT lt p (m + 1) := by
  intro i j hij hj
  by_cases e : j = m
  · subst e
    by_cases e' : i = j - 1
    · subst e'; exact h2
    · exact o.tr _ _ _ (h i (j - 1) (by omega) (by omega)) h2
  · exact h i j hij (by omega)
theorem DescT.ext (o : Ord2 lt) {p : Array Nat} {m : Nat} (h : DescT lt p m) (h1 : 1 ≤ m) (h2 : lt (p.getD (m - 1) 0) (p.getD m 0) = false) : DescT lt p (m + 1) := by
  intro i j hij hj
  by_cases e : j = m
  · subst e
    by_cases e' : i = j - 1
    · subst e'; exact h2
    · exact o.tr _ _ _ h2 (h i (j - 1) (by omega) (by omega))
  · exact h i j hij (by omega)
theorem ks_asc (o : Ord2 lt) {p : Array Nat} (hp : Inv2 n p) (h0 : 0 < n) {Q : Nat → Prop} : ∀ (f m : Nat), 1 ≤ m → SortedT lt p m → (∀ r, m ≤ r → r ≤ m + f → SortedT lt p r → (r < m + f → lt (p.getD r 0) (p.getD (r - 1) 0) = true) → Q r) → KS lt n (kas_asc p f m) Q
  | 0, m, h1, hs, k => by
    rw [kas_asc.eq_def]
    exact k m (Nat.le_refl _) (Nat.le_refl _) hs (fun h => absurd h (Nat.lt_irrefl _))
  | f + 1, m, h1, hs, k => by
    rw [kas_asc.eq_def]
    refine ⟨hp.ent h0 _, hp.ent h0 _, ?_⟩
    cases e : lt (p.getD m 0) (p.getD (m - 1) 0) with
    | true => exact k m (Nat.le_refl _) (by omega) hs (fun _ => e)
    | false => exact ks_asc o hp h0 f (m + 1) (by omega) (hs.ext o h1 e) fun r a b c d => k r (by omega) (by omega) c (fun z => d (by omega))
theorem rev_perm {p : Array Nat} (hp : Inv2 n p) (i j : Nat) : Inv2 n (kas_rev p i j) := (mirror_perm p i j _).trans hp
theorem rev_get {p : Array Nat} {i j : Nat} (hj : j ≤ p.size) (k : Nat) : (kas_rev p i j).getD k 0 = if i ≤ k ∧ k < j then p.getD (i + j - 1 - k) 0 else p.getD k 0 := by
  rw [Array.getD_eq_getD_getElem?, show (kas_rev p i j)[k]? = _ from getElem?_mirror_all hj k]
  by_cases e : i ≤ k ∧ k < j
  · rw [if_pos e, if_pos e, Array.getD_eq_getD_getElem?]
  · rw [if_neg e, if_neg e, Array.getD_eq_getD_getElem?]
theorem rev_desc (o : Ord2 lt) {p : Array Nat} {lo hi m : Nat} (hm : m ≤ p.size) (hh : hi ≤ m) (d : DescT lt p m) (e : ∀ i j, lo ≤ i → i < j → j < hi → lt (p.getD j 0) (p.getD i 0) = false) : DescT lt (kas_rev p lo hi) m := by
  intro i j hij hj
  rw [rev_get (by omega), rev_get (by omega)]
  by_cases a : lo ≤ i ∧ i < hi
  · rw [if_pos a]
    by_cases b : lo ≤ j ∧ j < hi
    · rw [if_pos b]; exact e _ _ (by omega) (by omega) (by omega)
    · rw [if_neg b]; exact d _ _ (by omega) hj
  · rw [if_neg a]
    by_cases b : lo ≤ j ∧ j < hi
    · rw [if_pos b]; exact d _ _ (by omega) (by omega)
    · rw [if_neg b]; exact d _ _ hij hj
theorem ks_desc (o : Ord2 lt) (h0 : 0 < n) {Q : Array Nat × Nat × Nat → Prop} : ∀ (f : Nat) (p : Array Nat) (m q : Nat), Inv2 n p → 1 ≤ m → m + f ≤ n → DescT lt p m → EqRun lt p m q → q + 1 ≤ m →
    (∀ p' m' q', Inv2 n p' → m ≤ m' → m' ≤ m + f → DescT lt p' m' → EqRun lt p' m' q' → q' + 1 ≤ m' → Q (p', m', q')) → KS lt n (kas_desc f p m q) Q
  | 0, p, m, q, hp, h1, h2, hd, he, hq, k => by
    rw [kas_desc.eq_def]
    exact k p m q hp (Nat.le_refl _) (Nat.le_refl _) hd he hq
  | f + 1, p, m, q, hp, h1, h2, hd, he, hq, k => by
    rw [kas_desc.eq_def]
    refine ⟨hp.ent h0 _, hp.ent h0 _, ?_⟩
    have hsz := hp.sz
    have e0 : ∀ p' : Array Nat, EqRun lt p' (m + 1) 0 := fun p' i j a b c => by omega
    cases c : lt (p.getD m 0) (p.getD (m - 1) 0) with
    | true =>
      have hd1 := hd.ext o h1 (o.as _ _ c)
      dsimp only; rw [if_pos rfl]
      by_cases hq0 : q > 0
      · rw [if_pos hq0]
        exact ks_desc o h0 f _ (m + 1) 0 (rev_perm hp _ _) (by omega) (by omega) (rev_desc o (by omega) (by omega) hd1 (fun i j a b d => he i j (by omega) b (by omega))) (e0 _) (by omega) fun p' m' q' a b c' d e g => k p' m' q' a (by omega) (by omega) d e g
      · rw [if_neg hq0]
        exact ks_desc o h0 f _ (m + 1) 0 hp (by omega) (by omega) hd1 (e0 _) (by omega) fun p' m' q' a b c' d e g => k p' m' q' a (by omega) (by omega) d e g
    | false =>
      dsimp only; rw [if_neg Bool.false_ne_true]
      refine ⟨hp.ent h0 _, hp.ent h0 _, ?_⟩
      cases d : lt (p.getD (m - 1) 0) (p.getD m 0) with
      | true =>
        dsimp only; rw [if_pos rfl]
        exact k p m q hp (Nat.le_refl _) (by omega) hd he hq
      | false =>
        dsimp only; rw [if_neg Bool.false_ne_true]
        refine ks_desc o h0 f p (m + 1) (q + 1) hp (by omega) (by omega) (hd.ext o h1 d) ?_ (by omega) fun p' m' q' a b c' d e g => k p' m' q' a (by omega) (by omega) d e g
        intro i j a b e
        by_cases ej : j = m
        · subst ej
          by_cases ei : i = j - 1
          · subst ei; exact c
          · exact o.tr _ _ _ (he i (j - 1) (by omega) (by omega) (by omega)) c
        · exact he i j (by omega) b (by omega)
def Part (lt : Nat → Nat → Bool) (n : Nat) (r : Nat × Array Nat) : Prop := Inv2 n r.2 ∧ 1 ≤ r.1 ∧ r.1 ≤ n ∧ SortedT lt r.2 r.1
theorem ks_tail3 (o : Ord2 lt) (h0 : 0 < n) {p : Array Nat} {m : Nat} (hp : Inv2 n p) (h1 : 1 ≤ m) (h2 : m ≤ n) (hd : DescT lt p m) : KS lt n (kas_tail3 m n p) (Part lt n) := by
  have hsz := hp.sz
  rw [kas_tail3.eq_def]
  refine KS.bind (ks_asc o (rev_perm hp 0 m) h0 _ _ h1 ?_ fun r a b c _ => ⟨rev_perm hp 0 m, by omega, by omega, c⟩)
  intro i j hij hj
  rw [rev_get (by omega), rev_get (by omega), if_pos (by omega), if_pos (by omega)]
  exact hd _ _ (by omega) (by omega)
theorem ks_descPart (o : Ord2 lt) (h0 : 0 < n) {p : Array Nat} {m : Nat} (hp : Inv2 n p) (h2 : m + 1 ≤ n) (hd : DescT lt p (m + 1)) : KS lt n (kas_descPart m n p) (Part lt n) := by
  rw [kas_descPart.eq_def]
  refine KS.bind (ks_desc o h0 _ _ _ _ hp (by omega) (by omega) hd (fun i j a b c => by omega) (by omega) fun p' m' q' a b c d e g => ?_)
  have hsz := a.sz
  show KS lt n (if q' > 0 then kas_tail3 m' n (kas_rev p' (m' - (q' + 1)) m') else kas_tail3 m' n p') _
  by_cases hq : q' > 0
  · rw [if_pos hq]
    exact ks_tail3 o h0 (rev_perm a _ _) (by omega) (by omega) (rev_desc o (by omega) (Nat.le_refl _) d fun i j x y z => e i j (by omega) y z)
  · rw [if_neg hq]
    exact ks_tail3 o h0 a (by omega) (by omega) d
theorem ks_count (o : Ord2 lt) (h0 : 0 < n) {p : Array Nat} (hp : Inv2 n p) : KS lt n (kas_count n p) (Part lt n) := by
  have hsz := hp.sz
  rw [kas_count.eq_def]
  refine KS.bind (ks_asc o hp h0 _ _ (Nat.le_refl _) (fun i j a b => by omega) fun r a b c d => ?_)
  by_cases e : (r == n) = true
  · rw [if_pos e]
    exact ⟨hp, a, by omega, c⟩
  · rw [if_neg e]
    have e' : r ≠ n := by simpa using e
    have hl := d (by omega)
    by_cases g : r > 1
    · rw [if_pos g]
      refine ⟨hp.ent h0 _, hp.ent h0 _, ?_⟩
      cases l : lt (p.getD 0 0) (p.getD (r - 1) 0) with
      | true => dsimp only; rw [if_pos rfl]; exact ⟨hp, a, by omega, c⟩
      | false =>
        dsimp only; rw [if_neg Bool.false_ne_true]
        have le : ∀ i j, i ≤ j → j < r → i < j ∨ i = j := fun i j x y => by omega
        have irr : ∀ x, lt x x = false := fun x => by
          cases q : lt x x with
          | false => rfl
          | true => rw [o.as _ _ q] at q; cases q
        have up : ∀ i, i < r → lt (p.getD i 0) (p.getD (r - 1) 0) = false := fun i hi => by
          have x1 : lt (p.getD i 0) (p.getD 0 0) = false := by
            by_cases z : i = 0
            · subst z; exact irr _
            · exact c 0 i (by omega) hi
          exact o.tr _ _ _ l x1
        have dn : ∀ i, i < r → lt (p.getD (r - 1) 0) (p.getD i 0) = false := fun i hi => by
          by_cases z : i = r - 1
          · subst z; exact irr _
          · exact c i (r - 1) (by omega) (by omega)
        have al : ∀ i j, i < r → j < r → lt (p.getD i 0) (p.getD j 0) = false := fun i j hi hj => o.tr _ _ _ (dn j hj) (up i hi)
        refine ks_descPart o h0 (rev_perm hp _ _) (by omega) ?_
        intro i j hij hj
        rw [rev_get (by omega), rev_get (by omega), if_pos (by omega)]
        by_cases z : j < r
        · rw [if_pos (by omega)]; exact al _ _ (by omega) (by omega)
        · rw [if_neg (by omega)]
          have : j = r := by omega
          subst this
          exact o.tr _ _ _ (o.as _ _ hl) (up _ (by omega))
    · rw [if_neg g]
      have : r = 1 := by omega
      subst this
      refine ks_descPart o h0 hp (by omega) ?_
      intro i j hij hj
      have : i = 0 := by omega
      have : j = 1 := by omega
      subst i; subst j
      exact o.as _ _ hl
theorem ks_place (o : Ord2 lt) (h0 : 0 < n) {p : Array Nat} (hp : Inv2 n p) {k : Nat} (hs : SortedT lt p k) {Q : Nat → Prop} (q : ∀ l, l ≤ k → (∀ i, i < l → lt (p.getD k 0) (p.getD i 0) = false) → (∀ i, l ≤ i → i < k → lt (p.getD k 0) (p.getD i 0) = true) → Q l) :
    ∀ (f l r : Nat), l ≤ r → r ≤ k → r - l ≤ f → (∀ i, i < l → lt (p.getD k 0) (p.getD i 0) = false) → (∀ i, r ≤ i → i < k → lt (p.getD k 0) (p.getD i 0) = true) → KS lt n (kas_place p k f l r) Q
  | 0, l, r, h1, h2, h3, a, b => by
    rw [kas_place.eq_def]
    have : l = r := by omega
    subst this
    exact q l h2 a b
  | f + 1, l, r, h1, h2, h3, a, b => by
    rw [kas_place.eq_def]
    show KS lt n (if l ≥ r then _ else _) Q
    by_cases g : l ≥ r
    · rw [if_pos g]
      have : l = r := by omega
      subst this
      exact q l h2 a b
    · rw [if_neg g]
      refine ⟨hp.ent h0 _, hp.ent h0 _, ?_⟩
      cases c : lt (p.getD k 0) (p.getD ((l + r) / 2) 0) with
      | true =>
        dsimp only; rw [if_pos rfl]
        refine ks_place o h0 hp hs q f _ _ (by omega) (by omega) (by omega) a fun i x y => ?_
        by_cases z : i = (l + r) / 2
        · subst z; exact c
        · exact o.up c (hs _ _ (by omega) y)
      | false =>
        dsimp only; rw [if_neg Bool.false_ne_true]
        refine ks_place o h0 hp hs q f _ _ (by omega) (by omega) (by omega) (fun i x => ?_) b
        by_cases z : i = (l + r) / 2
        · subst z; exact c
        · exact o.tr _ _ _ (hs i ((l + r) / 2) (by omega) (by omega)) c
theorem bub_get {p : Array Nat} {src d : Nat} (h : src < p.size) (hd : d ≤ src) (k : Nat) : (bubble p src d).getD k 0 = if k = src - d then p.getD src 0 else if src - d < k ∧ k ≤ src then p.getD (k - 1) 0 else p.getD k 0 := by
  rw [Array.getD_eq_getD_getElem?, getElem?_bubble h d hd k]
  by_cases e : k = src - d
  · rw [if_pos e, if_pos e, Array.getD_eq_getD_getElem?]
  · rw [if_neg e, if_neg e]
    by_cases e2 : src - d < k ∧ k ≤ src
    · rw [if_pos e2, if_pos e2, Array.getD_eq_getD_getElem?]
    · rw [if_neg e2, if_neg e2, Array.getD_eq_getD_getElem?]
theorem ks_bin (o : Ord2 lt) (h0 : 0 < n) {Q : Array Nat → Prop} (q : ∀ p, Inv2 n p → SortedT lt p n → Q p) : ∀ (f : Nat) (p : Array Nat) (k : Nat), Inv2 n p → k + f = n → SortedT lt p k → KS lt n (kas_bin f p k) Q
  | 0, p, k, hp, hk, hs => by
    rw [kas_bin.eq_def]
    have : k = n := by omega
    subst this
    exact q p hp hs
  | f + 1, p, k, hp, hk, hs => by
    rw [kas_bin.eq_def]
    have hsz := hp.sz
    refine KS.bind (ks_place o h0 hp hs (fun l hl a b => ?_) k 0 k (by omega) (by omega) (by omega) (fun i x => by omega) (fun i x y => by omega))
    refine ks_bin o h0 q f _ (k + 1) ((bubble_perm p k (k - l)).trans hp) (by omega) ?_
    intro i j hij hj
    rw [bub_get (by omega) (by omega), bub_get (by omega) (by omega)]
    have hkl : k - (k - l) = l := by omega
    rw [hkl]
    by_cases j1 : j = l
    · rw [if_pos j1, if_neg (by omega), if_neg (by omega)]; exact a i (by omega)
    · rw [if_neg j1]
      by_cases j2 : l < j ∧ j ≤ k
      · rw [if_pos j2]
        by_cases i1 : i = l
        · rw [if_pos i1]; exact o.as _ _ (b _ (by omega) (by omega))
        · rw [if_neg i1]
          by_cases i2 : l < i ∧ i ≤ k
          · rw [if_pos i2]; exact hs _ _ (by omega) (by omega)
          · rw [if_neg i2]; exact hs _ _ (by omega) (by omega)
      · rw [if_neg j2, if_neg (by omega), if_neg (by omega)]; exact hs _ _ hij (by omega)
theorem ks_sort (o : Ord2 lt) (h0 : 0 < n) : KS lt n (kas_sort n) (fun p => Inv2 n p ∧ SortedT lt p n) := by
  unfold kas_sort
  refine KS.bind (KS.mono (fun r h => ?_) (ks_count o h0 (p := (List.range n).toArray) (Array.Perm.refl _)))
  obtain ⟨a, b, c, d⟩ := h
  by_cases e : r.fst < n
  · rw [if_pos e]
    have hm : max r.fst 1 = r.fst := by omega
    rw [hm]
    exact ks_bin o h0 (fun p x y => ⟨x, y⟩) _ _ _ a (by omega) d
  · rw [if_neg e]
    have : r.fst = n := by omega
    exact ⟨a, this ▸ d⟩
end
end L2

end

section
set_option Elab.async false
set_option linter.all false
set_option maxRecDepth 100000
set_option maxHeartbeats 4000000
namespace L2
open PySem PySem.Spec PyProof.Rows
def intsD : List PyData → Option (List Int)
  | [] => some []
  | .int n :: r => (intsD r).bind fun ns => some (n :: ns)
  | _ => none
theorem intsD_are {h : Heap} : ∀ {ds : List PyData} {us : List Value} {as : List Addr} {ns : List Int}, ReadsAll h us ds as → intsD ds = some ns → IntsAre us ns
  | [], _, _, _, r, e => by cases r; cases e; exact .nil
  | d :: ds, _, _, _, r, e => by
    cases r with
    | cons r1 r2 =>
      cases d with
      | int n =>
        have e : (intsD ds).bind (fun ns => some (n :: ns)) = some _ := e
        obtain ⟨ms, h1, h2⟩ := Option.bind_eq_some_iff.mp e
        cases h2
        cases r1
        exact .cons _ _ (intsD_are r2 h1)
      | _ => cases e
def ltItem : PyData → PyData → Option Bool
  | .int a, .int b => some (decide (a < b))
  | .tuple xs, .tuple ys => (intsD xs).bind fun ns => (intsD ys).bind fun ms => some (HT.lexLt ns ms)
  | _, _ => none
def ltRow : List PyData → List PyData → Option Bool
  | [], ys => some (decide (0 < ys.length))
  | _ :: _, [] => some false
  | x :: xs, y :: ys => if PyData.eqv x y = true then ltRow xs ys else ltItem x y
def isI : PyData → Bool
  | .int _ => true
  | _ => false
section
variable {prog : Program} {w : World} {A : Around} {E : Value → Shared → Prop} {s : Shared}
theorem lt_item {p q : Value} {x y : PyData} {as bs : List Addr} {c fl : Bool} {Q : Bool → Shared → Prop} (hu : A.units < cLine) (r1 : Reads s.heap p x as) (r2 : Reads s.heap q y bs) (h : ltItem x y = some c) (hf : fl = true → isI x = true ∧ isI y = true) (k : Q c s) :
    wpAny (model prog w) A (oneLt' fl p q) Q E s := by
  unfold ltItem at h
  split at h
  · rename_i a b
    cases r1; cases r2; cases h
    cases fl with
    | true => exact oneLt_int k
    | false => exact PySem.W.kat_one _ _ (lt_int k)
  · rename_i xs ys
    obtain ⟨ns, h1, h⟩ := Option.bind_eq_some_iff.mp h
    obtain ⟨ms, h2, h⟩ := Option.bind_eq_some_iff.mp h
    cases h
    cases fl with
    | true => exact absurd (hf rfl).1 (by intro z; cases z)
    | false =>
      cases r1 with
      | tuple g1 g2 g3 g4 =>
        cases r2 with
        | tuple k1 k2 k3 k4 =>
          exact PySem.W.kat_one _ _ (HT.lt_tupInts ⟨_, g1, g2, _, g3⟩ ⟨_, k1, k2, _, k3⟩ (intsD_are g4 h1) (intsD_are k4 h2) hu k)
  · cases h
theorem lex_row {b fin c : Bool} {Q : Bool → Shared → Prop} (hu : A.units + 64 < cLine) (k : Q c s) : ∀ (xs ys : List PyData) (us ws : List Value) (as bs : List Addr) (i : Nat), ReadsAll s.heap us xs as → ReadsAll s.heap ws ys bs → xs.all SeqAt.shaped = true → ys.all SeqAt.shaped = true →
    ltRow xs ys = some c → fin = decide (us.length < ws.length) → ((b && i == 0) = true → xs.head?.all isI = true ∧ ys.head?.all isI = true) → PySem.W.KatLex prog w A b fin Q (us.zip ws) i s
  | [], ys, us, ws, as, bs, i, r1, r2, s1, s2, h, hf, hb => by
    cases r1
    have hl : ws.length = ys.length := by
      clear k h hf hb s2
      induction r2 using ReadsAll.rec (motive_1 := fun _ _ _ _ => True) with
      | nil => rfl
      | cons _ _ _ ih => simp [ih]
      | _ => trivial
    rw [List.zip_nil_left]
    refine PySem.W.kat_nil ?_
    have h : some (decide (0 < ys.length)) = some c := h
    cases h
    rw [hf, hl]; exact k
  | x :: xs, [], us, ws, as, bs, i, r1, r2, s1, s2, h, hf, hb => by
    cases r2
    rw [List.zip_nil_right]
    refine PySem.W.kat_nil ?_
    cases h
    rw [hf]
    simpa using k
  | x :: xs, y :: ys, us, ws, as, bs, i, r1, r2, s1, s2, h, hf, hb => by
    cases r1 with
    | cons a1 a2 =>
      cases r2 with
      | cons b1 b2 =>
        rw [List.all_cons, Bool.and_eq_true] at s1 s2
        rw [List.zip_cons_cons]
        refine PySem.W.kat_cons ?_
        refine SeqAt.eqAt_reads x y A s _ _ _ _ a1 b1 (SeqAt.canLay_of_shaped s1.1) (SeqAt.canLay_of_shaped s2.1) (SeqAt.room_of_shaped s1.1 hu) _ _ _ _ ?_
        have h : (if PyData.eqv x y = true then ltRow xs ys else ltItem x y) = some c := h
        cases e : PyData.eqv x y with
        | true =>
          rw [e, if_pos rfl] at h
          refine PySem.W.kat_yes (lex_row hu k xs ys _ _ _ _ (i + 1) a2 b2 s1.2 s2.2 h ?_ (fun z => ?_))
          · rw [hf]; simp
          · simp at z
        | false =>
          rw [e, if_neg Bool.false_ne_true] at h
          refine PySem.W.kat_no (lt_item (by omega) a1 b1 h (fun z => ?_) k)
          have := hb z
          simpa using this
end
end L2

end

section
set_option Elab.async false
set_option linter.all false
set_option maxRecDepth 100000
set_option maxHeartbeats 4000000
namespace L2
open PySem PySem.W PyProof.Rows
def kRun {α : Type} (lt : Nat → Nat → Bool) : KasT α → α
  | .ret a => a
  | .ask i j k => kRun lt (k (lt i j))
def KA {α : Type} (n : Nat) : KasT α → (α → Prop) → Prop
  | .ret a, Q => Q a
  | .ask i j k, Q => i < n ∧ j < n ∧ ∀ b, KA n (k b) Q
section
variable {n : Nat}
theorem KA.bind {α β : Type} {f : α → KasT β} {Q : β → Prop} : ∀ {t : KasT α}, KA n t (fun a => KA n (f a) Q) → KA n (t.bind f) Q
  | .ret _, h => h
  | .ask _ _ _, h => ⟨h.1, h.2.1, fun b => KA.bind (h.2.2 b)⟩
theorem KA.ks {α : Type} {lt : Nat → Nat → Bool} {Q : α → Prop} : ∀ {t : KasT α}, KA n t Q → KS lt n t (fun a => a = kRun lt t ∧ Q a)
  | .ret _, h => ⟨rfl, h⟩
  | .ask i j _, h => ⟨h.1, h.2.1, KA.ks (h.2.2 (lt i j))⟩
theorem KS.run {α : Type} {lt : Nat → Nat → Bool} {Q : α → Prop} : ∀ {t : KasT α}, KS lt n t Q → Q (kRun lt t)
  | .ret _, h => h
  | .ask i j k, h => KS.run (t := k (lt i j)) h.2.2
theorem ka_asc {p : Array Nat} (hp : Inv2 n p) (h0 : 0 < n) {Q : Nat → Prop} (q : ∀ r, Q r) : ∀ (f m : Nat), KA n (kas_asc p f m) Q
  | 0, m => by rw [kas_asc.eq_def]; exact q m
  | f + 1, m => by
    rw [kas_asc.eq_def]
    refine ⟨hp.ent h0 _, hp.ent h0 _, fun b => ?_⟩
    cases b with
    | true => exact q m
    | false => exact ka_asc hp h0 q f (m + 1)
theorem ka_desc (h0 : 0 < n) {Q : Array Nat × Nat × Nat → Prop} (k : ∀ p m q, Inv2 n p → Q (p, m, q)) : ∀ (f : Nat) (p : Array Nat) (m q : Nat), Inv2 n p → KA n (kas_desc f p m q) Q
  | 0, p, m, q, hp => by rw [kas_desc.eq_def]; exact k p m q hp
  | f + 1, p, m, q, hp => by
    rw [kas_desc.eq_def]
    refine ⟨hp.ent h0 _, hp.ent h0 _, fun b => ?_⟩
    cases b with
    | true =>
      dsimp only; rw [if_pos rfl]
      by_cases hq : q > 0
      · rw [if_pos hq]; exact ka_desc h0 k f _ _ _ (rev_perm hp _ _)
      · rw [if_neg hq]; exact ka_desc h0 k f _ _ _ hp
    | false =>
      dsimp only; rw [if_neg Bool.false_ne_true]
      refine ⟨hp.ent h0 _, hp.ent h0 _, fun b => ?_⟩
      cases b with
      | true => exact k p m q hp
      | false => exact ka_desc h0 k f _ _ _ hp
theorem ka_tail3 (h0 : 0 < n) {p : Array Nat} {m : Nat} (hp : Inv2 n p) : KA n (kas_tail3 m n p) (fun r => Inv2 n r.2) := by
  rw [kas_tail3.eq_def]
  exact KA.bind (ka_asc (rev_perm hp 0 m) h0 (fun r => rev_perm hp 0 m) _ _)
theorem ka_descPart (h0 : 0 < n) {p : Array Nat} {m : Nat} (hp : Inv2 n p) : KA n (kas_descPart m n p) (fun r => Inv2 n r.2) := by
  rw [kas_descPart.eq_def]
  refine KA.bind (ka_desc h0 (fun p' m' q' a => ?_) _ _ _ _ hp)
  show KA n (if q' > 0 then kas_tail3 m' n (kas_rev p' (m' - (q' + 1)) m') else kas_tail3 m' n p') _
  by_cases hq : q' > 0
  · rw [if_pos hq]; exact ka_tail3 h0 (rev_perm a _ _)
  · rw [if_neg hq]; exact ka_tail3 h0 a
theorem ka_count (h0 : 0 < n) {p : Array Nat} (hp : Inv2 n p) : KA n (kas_count n p) (fun r => Inv2 n r.2) := by
  rw [kas_count.eq_def]
  refine KA.bind (ka_asc hp h0 (fun r => ?_) _ _)
  by_cases e : (r == n) = true
  · rw [if_pos e]; exact hp
  · rw [if_neg e]
    by_cases g : r > 1
    · rw [if_pos g]
      refine ⟨hp.ent h0 _, hp.ent h0 _, fun b => ?_⟩
      cases b with
      | true => exact hp
      | false => exact ka_descPart h0 (rev_perm hp _ _)
    · rw [if_neg g]; exact ka_descPart h0 hp
theorem ka_place (h0 : 0 < n) {p : Array Nat} (hp : Inv2 n p) {k : Nat} {Q : Nat → Prop} (q : ∀ l, Q l) : ∀ (f l r : Nat), KA n (kas_place p k f l r) Q
  | 0, l, r => by rw [kas_place.eq_def]; exact q l
  | f + 1, l, r => by
    rw [kas_place.eq_def]
    show KA n (if l ≥ r then _ else _) Q
    by_cases g : l ≥ r
    · rw [if_pos g]; exact q l
    · rw [if_neg g]
      refine ⟨hp.ent h0 _, hp.ent h0 _, fun b => ?_⟩
      cases b with
      | true => exact ka_place h0 hp q f _ _
      | false => exact ka_place h0 hp q f _ _
theorem ka_bin (h0 : 0 < n) : ∀ (f : Nat) (p : Array Nat) (k : Nat), Inv2 n p → KA n (kas_bin f p k) (Inv2 n)
  | 0, p, k, hp => by rw [kas_bin.eq_def]; exact hp
  | f + 1, p, k, hp => by
    rw [kas_bin.eq_def]
    exact KA.bind (ka_place h0 hp (fun l => ka_bin h0 f _ (k + 1) ((bubble_perm p k (k - l)).trans hp)) k 0 k)
theorem ka_sort (h0 : 0 < n) : KA n (kas_sort n) (Inv2 n) := by
  unfold kas_sort
  have := ka_count h0 (p := (List.range n).toArray) (Array.Perm.refl _)
  refine KA.bind ?_
  have mono : ∀ {α : Type} {Q R : α → Prop} (m : ∀ a, Q a → R a) (t : KasT α), KA n t Q → KA n t R := by
    intro α Q R m t
    induction t with
    | ret a => exact m a
    | ask i j k ih => exact fun h => ⟨h.1, h.2.1, fun b => ih b (h.2.2 b)⟩
  refine mono (fun r a => ?_) _ this
  by_cases e : r.fst < n
  · rw [if_pos e]; exact ka_bin h0 _ _ _ a
  · rw [if_neg e]; exact a
def sortIx (lt : Nat → Nat → Bool) (n : Nat) : List Nat := (kRun lt (kas_sort n)).toList
theorem sortIx_perm (lt : Nat → Nat → Bool) (h0 : 0 < n) : (sortIx lt n).Perm (List.range n) := by
  have := KS.run (KA.ks (lt := lt) (ka_sort h0))
  simpa [sortIx] using Array.perm_iff_toList_perm.mp this.2
end
end L2

end

section
set_option Elab.async false
set_option linter.all false
set_option maxRecDepth 100000
set_option maxHeartbeats 4000000
namespace L2
open PySem PySem.Spec PyProof.Rows
mutual
def onlyT : PyData → Bool
  | .int _ => true
  | .tuple xs => onlyTs xs
  | _ => false
def onlyTs : List PyData → Bool
  | [] => true
  | x :: r => onlyT x && onlyTs r
end
mutual
theorem rk {h h' : Heap} (k : ∀ b o vs n, h.get? b = some o → o.data = .seq vs n → h'.get? b = some o) : ∀ (d : PyData) (v : Value) (as : List Addr), onlyT d = true → Reads h v d as → Reads h' v d as
  | .int n, _, _, _, r => by cases r; exact .int _ _
  | .tuple xs, _, _, e, r => by
    cases r with
    | tuple a b c d => exact .tuple (k _ _ _ _ a c) b c (rkAll k xs _ _ (by unfold onlyT at e; exact e) d)
  | .none, _, _, e, _ => by unfold onlyT at e; cases e
  | .bool _, _, _, e, _ => by unfold onlyT at e; cases e
  | .str _, _, _, e, _ => by unfold onlyT at e; cases e
  | .list _, _, _, e, _ => by unfold onlyT at e; cases e
  | .dict _, _, _, e, _ => by unfold onlyT at e; cases e
theorem rkAll {h h' : Heap} (k : ∀ b o vs n, h.get? b = some o → o.data = .seq vs n → h'.get? b = some o) : ∀ (ds : List PyData) (vs : List Value) (as : List Addr), onlyTs ds = true → ReadsAll h vs ds as → ReadsAll h' vs ds as
  | [], _, _, _, r => by cases r; exact .nil
  | d :: ds, _, _, e, r => by
    cases r with
    | cons a b =>
      unfold onlyTs at e
      rw [Bool.and_eq_true] at e
      exact .cons (rk k d _ _ e.1 a) (rkAll k ds _ _ e.2 b)
end
theorem ReadsAll.at {h : Heap} : ∀ {ds : List PyData} {vs : List Value} {as : List Addr} (i : Nat), ReadsAll h vs ds as → i < ds.length → ∃ bs, Reads h (vs.getD i .none) (ds.getD i .none) bs
  | [], _, _, i, _, hi => absurd hi (Nat.not_lt_zero _)
  | d :: ds, _, _, 0, r, _ => by cases r with | cons a b => exact ⟨_, a⟩
  | d :: ds, _, _, i + 1, r, hi => by
    cases r with
    | cons a b =>
      obtain ⟨bs, x⟩ := ReadsAll.at i b (Nat.lt_of_succ_lt_succ hi)
      exact ⟨bs, x⟩
theorem ReadsAll.len {h : Heap} : ∀ {ds : List PyData} {vs : List Value} {as : List Addr}, ReadsAll h vs ds as → vs.length = ds.length
  | [], _, _, r => by cases r; rfl
  | d :: ds, _, _, r => by
    cases r with
    | cons a b => simp [ReadsAll.len b]
section
variable {prog : Program} {w : World} {A : Around} {E : Value → Shared → Prop} {s : Shared}
theorem key_lt {b c : Bool} {p q : Value} {xs ys : List PyData} {as bs : List Addr} {Q : Bool → Shared → Prop} (hu : A.units + 64 < cLine) (r1 : Reads s.heap p (.tuple xs) as) (r2 : Reads s.heap q (.tuple ys) bs)
    (s1 : xs.all SeqAt.shaped = true) (s2 : ys.all SeqAt.shaped = true) (h : ltRow xs ys = some c) (hb : b = true → xs.head?.all isI = true ∧ ys.head?.all isI = true) (k : Q c s) : wpAny (model prog w) A (keyLt' (tuples' b) p q) Q E s := by
  cases r1 with
  | tuple a1 a2 a3 a4 =>
    cases r2 with
    | tuple b1 b2 b3 b4 =>
      refine PySem.W.kat_lt a1 a3 b1 b3 (lex_row hu k xs ys _ _ _ _ 0 a4 b4 s1 s2 h (by simp) (fun z => hb ?_))
      simpa using z
def headI (rows : List (List PyData)) : Bool := rows.all fun r => match r with
  | .int _ :: _ => true
  | _ => false
def headT (rows : List (List PyData)) : Bool := rows.all fun r => match r with
  | .tuple _ :: _ => true
  | _ => false
theorem looksI {M : Model} {h : Heap} (n : Int) (t : Tok) : PySem.W.Looks M h (typeOf (.int n t)) (.type "int") := fun A Q E s _ q => by
  show wpAny M A (pure _) Q E s
  exact wpAny_pure q
theorem firstsI {h : Heap} : ∀ {rows : List (List PyData)} {vs : List Value} {as : List Addr}, ReadsAll h vs (rows.map .tuple) as → headI rows = true → ∃ fs, PySem.W.KatTups h vs fs ∧ fs.length = rows.length ∧ ∀ v ∈ fs, ∃ n t, v = .int n t
  | [], _, _, r, _ => by cases r; exact ⟨[], .nil, rfl, fun v hv => nomatch hv⟩
  | x :: rows, _, _, r, e => by
    unfold headI at e
    rw [List.all_cons, Bool.and_eq_true] at e
    cases r with
    | cons a b =>
      obtain ⟨fs, h1, h2, h3⟩ := firstsI b (by unfold headI; exact e.2)
      cases x with
      | nil => exact absurd e.1 (by decide)
      | cons d ds =>
        cases d with
        | int n =>
          cases a with
          | tuple g1 g2 g3 g4 =>
            rename_i o vs n' 
            generalize hv : vs.toList = l at g4
            cases g4 with
            | cons q1 q2 =>
              cases q1 with
              | int _ t =>
                refine ⟨.int n t :: fs, .cons g1 g2 g3 (f := .int n t) ?_ h1, by simp [h2], ?_⟩
                · rw [← Array.getElem?_toList, hv]; rfl
                · intro v hv'
                  rcases List.mem_cons.mp hv' with z | z
                  · exact ⟨_, _, z⟩
                  · exact h3 v z
        | _ => exact absurd e.1 (by intro z; cases z)
end
end L2

end

section
set_option Elab.async false
set_option linter.all false
set_option maxRecDepth 100000
set_option maxHeartbeats 4000000
namespace L2
open PySem PySem.Spec PyProof.Rows
section
variable {prog : Program} {w : World} {A : Around} {E : Value → Shared → Prop} {s : Shared}
theorem looksT {M : Model} {h : Heap} {a : Addr} {o : Obj} (g : h.get? a = some o) (c : o.cls = .type "tuple") : PySem.W.Looks M h (typeOf (.ref a)) (.type "tuple") := fun A Q E s k q => wpAny_typeOf (show s.TypeIs (.ref a) "tuple" from ⟨o, k _ _ g, c⟩) q
theorem firstsT {h : Heap} : ∀ {rows : List (List PyData)} {vs : List Value} {as : List Addr}, ReadsAll h vs (rows.map .tuple) as → headT rows = true → ∃ fs, PySem.W.KatTups h vs fs ∧ fs.length = rows.length ∧ ∀ v ∈ fs, ∃ a o, v = .ref a ∧ h.get? a = some o ∧ o.cls = .type "tuple"
  | [], _, _, r, _ => by cases r; exact ⟨[], .nil, rfl, fun v hv => nomatch hv⟩
  | x :: rows, _, _, r, e => by
    unfold headT at e
    rw [List.all_cons, Bool.and_eq_true] at e
    cases r with
    | cons a b =>
      obtain ⟨fs, h1, h2, h3⟩ := firstsT b (by unfold headT; exact e.2)
      cases x with
      | nil => exact absurd e.1 (by decide)
      | cons d ds =>
        cases d with
        | tuple ys =>
          cases a with
          | tuple g1 g2 g3 g4 =>
            rename_i o vs n'
            generalize hv : vs.toList = l at g4
            cases g4 with
            | cons q1 q2 =>
              cases q1 with
              | @tuple a' _ _ _ _ _ k1 k2 k3 k4 =>
                refine ⟨.ref a' :: fs, .cons g1 g2 g3 (f := .ref a') ?_ h1, by simp [h2], ?_⟩
                · rw [← Array.getElem?_toList, hv]; rfl
                · intro v hv'
                  rcases List.mem_cons.mp hv' with z | z
                  · exact ⟨_, _, z, k1, k2⟩
                  · exact h3 v z
        | _ => exact absurd e.1 (by intro z; cases z)
theorem kind_rows {M : Model} {rows : List (List PyData)} {vs : List Value} {as : List Addr} {Q : SortKind → Shared → Prop} (r : ReadsAll s.heap vs (rows.map .tuple) as) (h0 : 0 < rows.length) (hk : headI rows = true ∨ headT rows = true) (q : Q (tuples' (headI rows)) s) : wpAny M A (keyKind' vs.toArray) Q E s := by
  rcases hk with hk | hk
  · obtain ⟨fs, h1, h2, h3⟩ := firstsI r hk
    rw [hk] at q
    refine PySem.W.kat_kind (T := .type "int") h1 (by omega) (fun v hv => ?_) (by decide) q
    obtain ⟨n, t, rfl⟩ := h3 v hv
    exact looksI n t
  · obtain ⟨fs, h1, h2, h3⟩ := firstsT r hk
    have e : headI rows = false := by
      cases rows with
      | nil => cases h0
      | cons x r =>
        unfold headT at hk
        rw [List.all_cons, Bool.and_eq_true] at hk
        cases x with
        | nil => rfl
        | cons d ds => cases d <;> first | rfl | exact absurd hk.1 (by intro z; cases z)
    rw [e] at q
    refine PySem.W.kat_kind (T := .type "tuple") h1 (by omega) (fun v hv => ?_) (by decide) q
    obtain ⟨a, o, rfl, g, c⟩ := h3 v hv
    exact looksT g c
end
section
variable {X : Cx} {pins : List (Addr × Obj)} {σ : St} {H : Hp} {s : Shared} {h' : Heap}
theorem ObjOk.there {P : Program} {w : World} {H : Hp} {h : Heap} {a : Addr} {o : HO} (x : ObjOk P w H h a o) : ∃ u, h.get? a = some u := by
  induction o with
  | lst xs => obtain ⟨_, _, _, _, e⟩ := x; exact ⟨_, e⟩
  | tup xs => obtain ⟨_, _, _, _, e, _⟩ := x; exact ⟨_, e⟩
  | dK kvs => obtain ⟨_, _, _, _, o, _, _, e, _⟩ := x; exact ⟨_, e⟩
  | dT kvs => obtain ⟨_, _, _, _, o, _, _, e, _⟩ := x; exact ⟨_, e⟩
  | set S n => obtain ⟨o, _, _, _, e, _⟩ := x; exact ⟨_, e⟩
  | ins C dx fs => obtain ⟨_, _, _, e, _⟩ := x; exact ⟨_, e⟩
  | own y => exact x
  | xd fs => obtain ⟨_, ⟨_, _, _, e, _⟩, _⟩ := x; exact ⟨_, e⟩
  | rng lo hi => obtain ⟨_, _, _, e⟩ := x; exact ⟨_, e⟩
  | frz o u => exact ⟨_, x.1⟩
  | tbl ps => exact ⟨_, x⟩
  | met f x' => exact ⟨_, x⟩
  | ext φ => exact x.2.1
theorem HOk.none {P : Program} {w : World} {H : Hp} {h : Heap} {a : Addr} (x : HOk P w H h) (e : h.get? a = none) : H a = none := by
  cases q : H a with
  | none => rfl
  | some o =>
    obtain ⟨u, z⟩ := (x a o q).there
    rw [e] at z; cases z
theorem Inv.laidL {a : Addr} {o : HO} (I : Inv X pins σ H s) (k : ∀ b u, b ≠ X.env.locals → s.heap.get? b = some u → h'.get? b = some u) (ns : ∀ m, s.heap.Ns X.env.locals m → h'.Ns X.env.locals m) (hp : s.heap.get? a = none) (new : ObjOk X.prog X.w (upd H a o) h' a o) :
    Inv X pins σ (upd H a o) { s with heap := h' } := by
  have hn := I.hok.none hp
  have nt : ∀ b u, H b = some u → b ≠ X.env.locals := fun b u e z => by rw [z, I.free] at e; cases e
  refine I.step (g' := s.gens) (t' := s.toks) (d' := s.drawn) (ch := []) (fun _ z => nomatch z) (fun b o h1 _ _ e _ => k b o h1 e) (fun b o h1 _ _ e _ => ⟨o.slots, k b o h1 e⟩) (fun b o _ e n => ?_) (fun b o _ e => ?_) (fun b xs e => ?_) (fun b o u e => ?_) (fun b ps e => ⟨#[], ?_⟩) ns ?_ I.bare
  · rw [upd_ne (fun z => by subst z; rw [hp] at e; cases e)]; exact n
  · by_cases z : b = X.env.locals
    · subst z
      obtain ⟨m, hm, _⟩ := I.loc
      obtain ⟨o', _, _, q, _⟩ := ns m hm
      exact ⟨o', q⟩
    · exact ⟨o, k b o z e⟩
  · rw [upd_ne (ne_of_none e hn)]; exact e
  · rw [upd_ne (ne_of_none e hn)]; exact e
  · rw [upd_ne (ne_of_none e hn)]; simpa using e
  · intro b u e
    by_cases hb : b = a
    · subst hb; rw [upd_same] at e; cases e; exact new
    · rw [upd_ne hb] at e
      refine (I.hok b u e).stay (fun c v hc q => k c v ?_ q) (fun c q => by rw [upd_ne (ne_of_none q hn)]; exact q) fun c xs q => by rw [upd_ne (ne_of_none q hn)]; exact q
      rcases hc with z | z
      · rw [z]; exact nt b _ e
      · exact nt c _ z
theorem Ns_same {h : Heap} {L : Addr} {m m' : Str → Option Value} (a : h.Ns L m) (b : h.Ns L m') : m = m' := by
  obtain ⟨o, es, ep, h1, h2, _, h3⟩ := a
  obtain ⟨o', es', ep', k1, k2, _, k3⟩ := b
  rw [h1] at k1; cases k1
  rw [h2] at k2; cases k2
  funext x
  rw [← h3 x, k3 x]
def ltIx (rows : List (List PyData)) (i j : Nat) : Bool := (ltRow (rows.getD i []) (rows.getD j [])).getD false
def rSortD (K : PySem.W.Frag) : List V → Hp → VK → Prop := fun xs H Q => ∃ (p : Addr) (vs : List V) (rows : List (List PyData)), xs = [.ref p] ∧ SqL K H p vs ∧ RepAll K H (rows.map .tuple) vs ∧ 2 ≤ rows.length ∧ rows.length < 64 ∧
  (∀ r ∈ rows, r.all SeqAt.shaped = true ∧ onlyTs r = true) ∧ (headI rows = true ∨ headT rows = true) ∧ (∀ i j, i < rows.length → j < rows.length → (ltRow (rows.getD i []) (rows.getD j [])).isSome = true) ∧
  ∀ l, H l = none → Q (.ref l) (upd H l (.lst ((sortIx (ltIx rows) rows.length).map fun i => vs.getD i .non)))
theorem vals_pick {vs : List V} {us : List Value} (r : Vals vs us) : ∀ ps : List Nat, Vals (ps.map fun i => vs.getD i .non) (ps.map fun i => us.getD i .none)
  | [] => .nil
  | p :: ps => by
    refine .cons ?_ (vals_pick r ps)
    have go : ∀ {vs : List V} {us : List Value} (i : Nat), Vals vs us → RelV (vs.getD i .non) (us.getD i .none) := by
      intro vs us i r
      induction r generalizing i with
      | nil => exact rfl
      | cons a b ih => cases i with
        | zero => exact a
        | succ i => exact ih i
    exact go p r
theorem call_sortedD (hu : X.A.in1.in1.units + 64 < cLine) : CallR X (.builtin "sorted") (rSortD X.K) := by
  intro pins s σ H xs us Q I r h
  obtain ⟨p, vs, rows, rfl, hp, hrep, h2, h64, hsh, hknd, hlt, q⟩ := h
  obtain ⟨u, rfl, ru⟩ := vals1 r
  cases ru
  obtain ⟨its, rv, pl, hz⟩ := I.list hp
  obtain ⟨as, hr⟩ := RepAll.reads I _ vs its hrep rv
  have hlen : its.length = rows.length := by rw [ReadsAll.len hr, List.length_map]
  obtain ⟨m, F⟩ := I.fr
  have N : News X.base X.env.locals s.heap (allNews X.base s.heap X.env.locals) := news_all
  refine PySem.W.kat_sorted F N pl.isList (by omega) (by omega) fun D e1 h' F' N' hD => ?_
  have kp : ∀ (h1 : Heap), Fr X.base X.env.locals h1 m → (∀ q ∈ allNews X.base s.heap X.env.locals, h1.get? q.1 = some q.2) → ∀ b o, b ≠ X.env.locals → s.heap.get? b = some o → h1.get? b = some o := fun h1 G1 M1 b o hb e => by
    cases z : X.base.get? b with
    | some v =>
      have := I.bk b v z
      rw [e] at this; cases this
      exact G1.keep b _ z
    | none => exact M1 (b, o) (mem_allNews hb z e)
  have k' := kp h' F' (fun q hq => (N' q (List.mem_cons_of_mem _ hq)).1)
  have hsz : s.heap.get? D = none := by
    have hN := N' _ List.mem_cons_self
    cases e : s.heap.get? D with
    | none => rfl
    | some o => exact absurd (hD (D, o) (mem_allNews hN.2.1 hN.2.2 e)) (Nat.lt_irrefl _)
  have seqL : ∀ b o vs n, s.heap.get? b = some o → o.data = .seq vs n → b ≠ X.env.locals := fun b o vs n e d z => by
    obtain ⟨o', es, ep, x1, x2, _⟩ := F.ns
    subst z
    rw [e] at x1; cases x1
    rw [d] at x2; cases x2
  have onl : onlyTs (rows.map .tuple) = true := by
    clear hrep hr hlen q hknd hlt h2 h64
    induction rows with
    | nil => rfl
    | cons x r ih =>
      show (onlyTs x && onlyTs (r.map .tuple)) = true
      rw [(hsh x List.mem_cons_self).2, ih fun y hy => hsh y (List.mem_cons_of_mem _ hy)]; rfl
  have hr' : ReadsAll h' its (rows.map .tuple) as := rkAll (fun b o vs n e d => k' b o (seqL b o vs n e d) e) _ _ _ onl hr
  refine kind_rows (s := { s with heap := h' }) hr' (by omega) hknd ?_
  rw [hlen]
  refine KS.wp (lt := ltIx rows) (n := rows.length) (fun i j C hi hj c => ?_) (fun p hp' => ?_) ((ka_sort (by omega)).ks (lt := ltIx rows))
  · have at_ : ∀ i, i < rows.length → ∃ bs, Reads h' (its.getD i .none) (.tuple (rows.getD i [])) bs := fun i hi => by
      obtain ⟨bs, x⟩ := ReadsAll.at i hr' (by simpa using hi)
      have : (rows.map PyData.tuple).getD i .none = .tuple (rows.getD i []) := by
        rw [List.getD_eq_getElem?_getD, List.getElem?_map, List.getD_eq_getElem?_getD, List.getElem?_eq_getElem hi]; rfl
      rw [this] at x
      exact ⟨bs, x⟩
    obtain ⟨b1, r1⟩ := at_ i hi
    obtain ⟨b2, r2⟩ := at_ j hj
    have mem : ∀ i, i < rows.length → rows.getD i [] ∈ rows := fun i hi => by
      rw [List.getD_eq_getElem?_getD, List.getElem?_eq_getElem hi]; exact List.getElem_mem hi
    have hd : headI rows = true → ∀ r ∈ rows, r.head?.all isI = true := fun z r hr => by
      unfold headI at z
      have := List.all_eq_true.mp z r hr
      cases r with
      | nil => rfl
      | cons d ds => cases d <;> first | rfl | exact absurd this (by intro z; cases z)
    obtain ⟨c0, hc0⟩ := Option.isSome_iff_exists.mp (hlt i j hi hj)
    have hc : ltIx rows i j = c0 := by unfold ltIx; rw [hc0]; rfl
    rw [hc] at c
    exact key_lt (s := { s with heap := h' }) hu r1 r2 (hsh _ (mem i hi)).1 (hsh _ (mem j hj)).1 hc0 (fun z => ⟨hd z _ (mem i hi), hd z _ (mem j hj)⟩) c
  · obtain ⟨e, _⟩ := hp'
    subst e
    refine PySem.W.KasFin.intro F' N' (.head fun q hq => Nat.ne_of_lt (hD q hq)) fun h'' c F'' N'' => ?_
    have k'' := kp h'' F'' (fun q hq => (N'' q (List.mem_cons_of_mem _ hq)).1)
    refine ⟨.ref D, upd H D (.lst ((sortIx (ltIx rows) rows.length).map fun i => vs.getD i .non)), ?_, rfl, q D (I.hok.none hsz)⟩
    refine I.laidL k'' (fun m' hm' => ?_) hsz ⟨?_, _, c, vals_pick rv _, (N'' _ List.mem_cons_self).1⟩
    · rw [← Ns_same F.ns hm']; exact F''.ns
    · rw [List.length_map, (sortIx_perm (ltIx rows) (by omega)).length_eq, List.length_range]
      have : 64 ≤ sizeLine := by decide
      omega
end
end L2

end

section
set_option Elab.async false
set_option linter.all false
set_option maxRecDepth 100000
set_option maxHeartbeats 4000000
namespace L2
open PySem PySem.Spec PyProof.Rows
def rowsOf : List PyData → Option (List (List PyData))
  | [] => some []
  | .tuple r :: ds => (rowsOf ds).bind fun rs => some (r :: rs)
  | _ => none
theorem rowsOf_eq : ∀ {ds : List PyData} {rows : List (List PyData)}, rowsOf ds = some rows → ds = rows.map .tuple
  | [], _, h => by cases h; rfl
  | d :: ds, rows, h => by
    cases d with
    | tuple r =>
      have h : (rowsOf ds).bind (fun rs => some (r :: rs)) = some rows := h
      obtain ⟨rs, h1, h2⟩ := Option.bind_eq_some_iff.mp h
      cases h2
      rw [rowsOf_eq h1]; rfl
    | _ => cases h
def sortable (rows : List (List PyData)) : Bool := decide (2 ≤ rows.length) && decide (rows.length < 64) && rows.all (fun r => r.all SeqAt.shaped && onlyTs r) && (headI rows || headT rows) && (List.range rows.length).all fun i => (List.range rows.length).all fun j => (ltRow (rows.getD i []) (rows.getD j [])).isSome
def sortD (rows : List (List PyData)) : List PyData := (sortIx (ltIx rows) rows.length).map fun i => .tuple (rows.getD i [])
def sortedF : FN := fun xs M => match xs with
  | [.d (.list ds)] => (rowsOf ds).bind fun rows => if sortable rows = true then some (.d (.list (sortD rows)), M) else none
  | [.c i] => match M[i]? with
    | some (.lst ys) => (allD ys).bind fun ds => (rowsOf ds).bind fun rows => if sortable rows = true then some (.d (.list (sortD rows)), M) else none
    | _ => none
  | _ => none
theorem sortable_of {rows : List (List PyData)} (h : sortable rows = true) : 2 ≤ rows.length ∧ rows.length < 64 ∧ (∀ r ∈ rows, r.all SeqAt.shaped = true ∧ onlyTs r = true) ∧ (headI rows = true ∨ headT rows = true) ∧ (∀ i j, i < rows.length → j < rows.length → (ltRow (rows.getD i []) (rows.getD j [])).isSome = true) := by
  unfold sortable at h
  rw [Bool.and_eq_true, Bool.and_eq_true, Bool.and_eq_true, Bool.and_eq_true, Bool.or_eq_true] at h
  obtain ⟨⟨⟨⟨h1, h2⟩, h3⟩, h4⟩, h5⟩ := h
  refine ⟨of_decide_eq_true h1, of_decide_eq_true h2, fun r hr => ?_, h4, fun i j hi hj => ?_⟩
  · have := List.all_eq_true.mp h3 r hr
    rwa [Bool.and_eq_true] at this
  · exact List.all_eq_true.mp (List.all_eq_true.mp h5 i (List.mem_range.mpr hi)) j (List.mem_range.mpr hj)
section
variable {K : PySem.W.Frag}
theorem RepAll.len {H : Hp} : ∀ {ds : List PyData} {vs : List V}, RepAll K H ds vs → vs.length = ds.length
  | [], _, h => by
    have h : _ = [] := h
    rw [h]; rfl
  | d :: ds, _, h => by
    obtain ⟨v, r, rfl, _, h2⟩ := (show ∃ v r, _ = v :: r ∧ Rep K H d v ∧ RepAll K H ds r from h)
    simp [RepAll.len h2]
theorem rep_pick {H : Hp} {rows : List (List PyData)} {us : List V} (r : RepAll K H (rows.map .tuple) us) : ∀ ps : List Nat, (∀ i ∈ ps, i < rows.length) → RepAll K H (ps.map fun i => .tuple (rows.getD i [])) (ps.map fun i => us.getD i .non)
  | [], _ => rfl
  | p :: ps, hp => by
    refine ⟨_, _, rfl, ?_, rep_pick r ps fun i hi => hp i (List.mem_cons_of_mem _ hi)⟩
    have hi := hp p List.mem_cons_self
    have hl := RepAll.len r
    rw [List.length_map] at hl
    have hu : us[p]? = some (us.getD p .non) := by
      rw [List.getD_eq_getElem?_getD, List.getElem?_eq_getElem (by omega)]; rfl
    obtain ⟨d, h1, h2⟩ := RepAll.get r hu
    rw [List.getElem?_map, List.getElem?_eq_getElem hi] at h1
    cases h1
    have e : rows.getD p [] = rows[p] := by rw [List.getD_eq_getElem?_getD, List.getElem?_eq_getElem hi]; rfl
    show Rep K H (.tuple (rows.getD p [])) (us.getD p .non)
    rw [e]
    exact h2
theorem ix_lt {lt : Nat → Nat → Bool} {n : Nat} (h0 : 0 < n) : ∀ i ∈ sortIx lt n, i < n := fun i hi => List.mem_range.mp ((sortIx_perm lt h0).mem_iff.mp hi)
theorem pn_sorted : PN K (rSortD K) sortedF := by
  intro xs M z M' h W H vs Q G r k
  unfold sortedF at h
  split at h
  · rename_i ds
    obtain ⟨rows, h1, h⟩ := bindE h
    by_cases hs : sortable rows = true
    · rw [if_pos hs] at h
      cases h
      obtain ⟨a1, a2, a3, a4, a5⟩ := sortable_of hs
      rcases r with _ | ⟨r1, _ | _⟩
      obtain ⟨p, us, rfl, hq, hr⟩ := (show ∃ a us, _ = V.ref a ∧ SqL K W.F a us ∧ RepAll K W.F ds us from r1)
      rw [rowsOf_eq h1] at hr
      refine ⟨p, us, rows, rfl, G.fh.seq hq, RepAll.same G.fh _ _ hr, a1, a2, a3, a4, a5, fun l hl => ?_⟩
      obtain ⟨e2, G2⟩ := G.lay (o := .lst ((sortIx (ltIx rows) rows.length).map fun i => us.getD i .non)) hl
      exact k _ _ _ e2 G2 ⟨l, _, rfl, SqL.of upd_same, rep_pick (RepAll.same e2.ff _ _ hr) _ (ix_lt (by omega))⟩
    · rw [if_neg hs] at h; cases h
  · rename_i i
    split at h
    · rename_i ys hy
      obtain ⟨ds, h0, h⟩ := bindE h
      obtain ⟨rows, h1, h⟩ := bindE h
      by_cases hs : sortable rows = true
      · rw [if_pos hs] at h
        cases h
        obtain ⟨a1, a2, a3, a4, a5⟩ := sortable_of hs
        rcases r with _ | ⟨r1, _ | _⟩
        obtain ⟨us, hv, hr⟩ := G.lstAt hy
        have hr := repAll_of h0 hr
        rw [rowsOf_eq h1] at hr
        rw [r1.2]
        refine ⟨_, us, rows, rfl, SqL.of hv, RepAll.same G.fh _ _ hr, a1, a2, a3, a4, a5, fun l hl => ?_⟩
        obtain ⟨e2, G2⟩ := G.lay (o := .lst ((sortIx (ltIx rows) rows.length).map fun i => us.getD i .non)) hl
        exact k _ _ _ e2 G2 ⟨l, _, rfl, SqL.of upd_same, rep_pick (RepAll.same e2.ff _ _ hr) _ (ix_lt (by omega))⟩
      · rw [if_neg hs] at h; cases h
    · cases h
  · cases h
end
theorem Room.units2 {k : Nat} {A : Around} (r : Room k A) : A.in1.in1.units + 64 < cLine := by have := r.un; show A.units + 1 + 1 + 64 < _; omega
end L2

end

section
set_option Elab.async false
set_option linter.all false
set_option maxRecDepth 100000
set_option maxHeartbeats 4000000
namespace L2
open PySem PySem.Spec PyProof.Rows
section
variable {prog : Program} {w : World} {A : Around} {E : Value → Shared → Prop} {s : Shared}
theorem list_sort_short {a : Addr} {vs : List Value} {n : Nat} {P : PySem.Fin → Shared → Prop} (g : s.heap.get? a = some (seqObj "list" vs.toArray n)) (h2 : vs.length < 2)
    (k : P (.done (.ret .none)) { s with heap := sortedHeap s.heap a vs vs.toArray }) : wpAny (model prog w) A (Builtin.«list.sort» ⟨[.ref a], []⟩) P E s := by
  rw [list_sort_plain]
  have hz : vs.toArray.size ≤ sizeLine := by rw [List.size_toArray, sizeLine_eq]; omega
  refine wpAny_bind (listItems_at g rfl ?_)
  refine wpAny_bind (listUpdate_at g rfl ?_ hz (by simp))
  have g1 := get?_update_seq g (fun _ => #[])
  have hlt := Heap.lt_size g1
  refine wpAny_bind (seqEpoch_at g1 rfl ?_)
  refine wpAny_bind (wpAny_newTuple ?_ (by simpa using hz))
  refine wpAny_bind (wpAny_newList ?_)
  refine wpAny_holding ?_
  have hs : vs.toArray.size < 2 := by simpa using h2
  dsimp only
  rw [if_pos hs, if_pos hs]
  refine wpAny_bind (wpAny_pure ?_)
  refine wpAny_bind ?_
  show wpAny (model prog w) A (pure ((), SortSt.mk' general' (vs.toArray.zip vs.toArray) #[] 7 none)) _ E _
  refine wpAny_pure ?_
  dsimp only
  have g2 := Heap.get?_push_of_some { cls := .type "tuple", data := .seq vs.toArray.toList.toArray } g1
  have g3 := Heap.get?_push_of_some { cls := .type "list", data := .seq ([] : List Value).toArray } g2
  refine wpAny_bind (seqEpoch_at g3 rfl ?_)
  have hm : Array.map (fun x => x.snd) (arrOf (SortSt.mk' general' (vs.toArray.zip vs.toArray) #[] 7 none)) = vs.toArray := by
    show Array.map (fun x => x.snd) (vs.toArray.zip vs.toArray) = vs.toArray
    apply Array.ext
    · simp
    · intro i h1 h2
      simp
  rw [hm]
  refine wpAny_bind (listUpdate_at g3 rfl ?_ (by simp) (by omega))
  rw [if_neg (by simp)]
  exact wpAny_pure k
theorem sorted_short {l : Addr} {vs : List Value} {Q : Value → Shared → Prop} (g : s.heap.IsList l vs.toArray) (h2 : vs.length < 2)
    (k : ∀ (h' : Heap) (D : Addr), (∀ b o, s.heap.get? b = some o → h'.get? b = some o) → s.heap.objs.size ≤ D → (∃ c, h'.get? D = some (seqObj "list" vs.toArray c)) → Q (.ref D) { s with heap := h' }) : wpAny (model prog w) A (call (.builtin "sorted") [.ref l]) Q E s := by
  refine Calls.call_function_entry kind_sorted plain_sorted entry_sorted (args_sorted1 _) ?_
  have hz : vs.length ≤ sizeLine := by rw [sizeLine_eq]; omega
  unfold Builtin.sorted
  refine wpAny_bind (show wpAny _ _ (pure ()) _ _ _ from wpAny_pure ?_)
  refine wpAny_bind (collect_list g ?_ hz)
  refine wpAny_bind (wpAny_newList ?_ hz)
  generalize hh1 : (s.heap.push (seqObj "list" #[] 0)).update s.heap.objs.size (Obj.mapSeq fun x => x ++ vs.toArray) = h1
  have k1 : ∀ b o, s.heap.get? b = some o → h1.get? b = some o := fun b o e => by
    rw [← hh1, Heap.get?_update_ne _ _ _ _ (Nat.ne_of_lt (Heap.lt_size e))]
    exact Heap.get?_push_of_some _ e
  have sz1 : s.heap.objs.size ≤ h1.objs.size := by
    have e1 : (s.heap.push (seqObj "list" #[] 0)).get? s.heap.objs.size = some (seqObj "list" #[] 0) := Heap.get?_push_size _ rfl
    have e2 := get?_update_seq e1 (fun x => x ++ vs.toArray)
    rw [hh1] at e2
    exact Nat.le_of_lt (Heap.lt_size e2)
  refine wpAny_bind (wpAny_holding ?_)
  have gD : (h1.push { cls := .type "list", data := .seq vs.toArray }).get? h1.objs.size = some (seqObj "list" vs.toArray 0) := Heap.get?_push_size _ rfl
  refine wpAny_call_entry slot_list_sort ⟨_, gD, rfl⟩ entry_list_sort (list_sort_short gD h2 ⟨_, rfl, ?_⟩) (args_list_sort _)
  refine wpAny_pure ⟨_, rfl, k _ _ (fun b o e => ?_) sz1 ?_⟩
  · have hb : b ≠ h1.objs.size := Nat.ne_of_lt (Heap.lt_size (k1 b o e))
    unfold sortedHeap
    rw [Heap.get?_update_ne _ _ _ _ hb]
    refine Heap.get?_push_of_some _ (Heap.get?_push_of_some _ ?_)
    rw [Heap.get?_update_ne _ _ _ _ hb]
    exact Heap.get?_push_of_some _ (k1 b o e)
  · unfold sortedHeap
    have g1 := get?_update_seq gD (fun _ => #[])
    have g2 := Heap.get?_push_of_some (seqObj "tuple" vs.toArray 0) g1
    have g3 := Heap.get?_push_of_some (seqObj "list" #[] 0) g2
    exact ⟨_, get?_update_seq g3 (fun _ => vs.toArray)⟩
end
def rSortS (K : PySem.W.Frag) : List V → Hp → VK → Prop := fun xs H Q => ∃ (p : Addr) (vs : List V), xs = [.ref p] ∧ SqL K H p vs ∧ vs.length < 2 ∧ ∀ l, H l = none → Q (.ref l) (upd H l (.lst vs))
theorem call_sortedS {X : Cx} : CallR X (.builtin "sorted") (rSortS X.K) := by
  intro pins s σ H xs us Q I r h
  obtain ⟨p, vs, rfl, hp, h2, q⟩ := h
  obtain ⟨u, rfl, ru⟩ := vals1 r
  cases ru
  obtain ⟨its, rv, pl, hz⟩ := I.list hp
  have hl := rv.length
  refine sorted_short pl.isList (by omega) fun h' D k hD ⟨c, g⟩ => ?_
  exact ⟨.ref D, upd H D (.lst vs), I.laid (t' := s.toks) k hD ⟨hz, its, c, rv, g⟩, rfl, q D (I.hok.fresh hD)⟩
def rSort2 (K : PySem.W.Frag) : List V → Hp → VK → Prop := fun xs H Q => rSortD K xs H Q ∨ rSortS K xs H Q
theorem kSort2 {X : Cx} {K : PySem.W.Frag} (h : X.K = K) (hu : X.A.in1.in1.units + 64 < cLine) : CallR X (.builtin "sorted") (rSort2 K) := by
  subst h
  intro pins s σ H xs us Q I r h
  rcases h with h | h
  · exact call_sortedD hu pins s σ H xs us Q I r h
  · exact call_sortedS pins s σ H xs us Q I r h
def sortSF : FN := fun xs M => match xs with
  | [.d (.list ds)] => if ds.length < 2 then some (.d (.list ds), M) else none
  | [.c i] => match M[i]? with
    | some (.lst ys) => (allD ys).bind fun ds => if ds.length < 2 then some (.d (.list ds), M) else none
    | _ => none
  | _ => none
theorem pn_sortS {K : PySem.W.Frag} : PN K (rSortS K) sortSF := by
  intro xs M z M' h W H vs Q G r k
  unfold sortSF at h
  split at h
  · rename_i ds
    by_cases hs : ds.length < 2
    · rw [if_pos hs] at h
      cases h
      rcases r with _ | ⟨r1, _ | _⟩
      obtain ⟨p, us, rfl, hq, hr⟩ := (show ∃ a us, _ = V.ref a ∧ SqL K W.F a us ∧ RepAll K W.F ds us from r1)
      refine ⟨p, us, rfl, G.fh.seq hq, by rw [RepAll.len hr]; exact hs, fun l hl => ?_⟩
      obtain ⟨e2, G2⟩ := G.lay (o := .lst us) hl
      exact k _ _ _ e2 G2 ⟨l, _, rfl, SqL.of upd_same, RepAll.same e2.ff _ _ hr⟩
    · rw [if_neg hs] at h; cases h
  · rename_i i
    split at h
    · rename_i ys hy
      obtain ⟨ds, h0, h⟩ := bindE h
      by_cases hs : ds.length < 2
      · rw [if_pos hs] at h
        cases h
        rcases r with _ | ⟨r1, _ | _⟩
        obtain ⟨us, hv, hr⟩ := G.lstAt hy
        have hr := repAll_of h0 hr
        rw [r1.2]
        refine ⟨_, us, rfl, SqL.of hv, by rw [RepAll.len hr]; exact hs, fun l hl => ?_⟩
        obtain ⟨e2, G2⟩ := G.lay (o := .lst us) hl
        exact k _ _ _ e2 G2 ⟨l, _, rfl, SqL.of upd_same, RepAll.same e2.ff _ _ hr⟩
      · rw [if_neg hs] at h; cases h
    · cases h
  · cases h
def sort2F : FN := fun xs M => match sortSF xs M with
  | some r => some r
  | none => sortedF xs M
theorem pn_sort2 {K : PySem.W.Frag} : PN K (rSort2 K) sort2F := by
  intro xs M z M' h W H vs Q G r k
  unfold sort2F at h
  split at h
  · rename_i q hq
    cases h
    exact .inr (pn_sortS xs M z M' hq W H vs Q G r k)
  · exact .inl (pn_sorted xs M z M' h W H vs Q G r k)
theorem q_sort2 {ι : Type} {K : PySem.W.Frag} {X : ι → Cx} (hK : ∀ i, (X i).K = K) (hu : ∀ i, (X i).A.in1.in1.units + 64 < cLine) : QN K X (.builtin "sorted") sort2F := ⟨_, fun i => kSort2 (hK i) (hu i), pn_sort2⟩
end L2

end

section
set_option Elab.async false
set_option linter.all false
set_option maxRecDepth 100000
set_option maxHeartbeats 4000000
namespace L2
open PySem PySem.Spec PyProof.Rows
mutual
theorem eqvT : ∀ (x y : PyData), onlyT x = true → onlyT y = true → (PyData.eqv x y = true ↔ x = y)
  | .int a, .int b, _, _ => by rw [PyData.eqv.eq_def]; simp
  | .int a, .tuple b, _, _ => by rw [PyData.eqv.eq_def]; simp
  | .tuple a, .int b, _, _ => by rw [PyData.eqv.eq_def]; simp
  | .tuple xs, .tuple ys, h, k => by
    unfold onlyT at h k
    rw [PyData.eqv.eq_def]
    have := eqvTs xs ys h k
    simpa using this
  | .none, _, h, _ => by unfold onlyT at h; cases h
  | .bool _, _, h, _ => by unfold onlyT at h; cases h
  | .str _, _, h, _ => by unfold onlyT at h; cases h
  | .list _, _, h, _ => by unfold onlyT at h; cases h
  | .dict _, _, h, _ => by unfold onlyT at h; cases h
  | .int _, .none, _, h => by unfold onlyT at h; cases h
  | .int _, .bool _, _, h => by unfold onlyT at h; cases h
  | .int _, .str _, _, h => by unfold onlyT at h; cases h
  | .int _, .list _, _, h => by unfold onlyT at h; cases h
  | .int _, .dict _, _, h => by unfold onlyT at h; cases h
  | .tuple _, .none, _, h => by unfold onlyT at h; cases h
  | .tuple _, .bool _, _, h => by unfold onlyT at h; cases h
  | .tuple _, .str _, _, h => by unfold onlyT at h; cases h
  | .tuple _, .list _, _, h => by unfold onlyT at h; cases h
  | .tuple _, .dict _, _, h => by unfold onlyT at h; cases h
theorem eqvTs : ∀ (xs ys : List PyData), onlyTs xs = true → onlyTs ys = true → (PyData.eqvAll xs ys = true ↔ xs = ys)
  | [], [], _, _ => by rw [PyData.eqvAll.eq_def]; simp
  | [], _ :: _, _, _ => by rw [PyData.eqvAll.eq_def]; simp
  | _ :: _, [], _, _ => by rw [PyData.eqvAll.eq_def]; simp
  | x :: xs, y :: ys, h, k => by
    unfold onlyTs at h k
    rw [Bool.and_eq_true] at h k
    rw [PyData.eqvAll.eq_def]
    show (PyData.eqv x y && PyData.eqvAll xs ys) = true ↔ _
    rw [Bool.and_eq_true, eqvT x y h.1 k.1, eqvTs xs ys h.2 k.2, List.cons.injEq]
end
theorem lex_as : ∀ a b : List Int, HT.lexLt a b = true → HT.lexLt b a = false
  | [], [], h => by cases h
  | [], _ :: _, _ => rfl
  | _ :: _, [], h => by cases h
  | x :: xs, y :: ys, h => by
    rw [HT.lexLt_cons] at h ⊢
    by_cases e : x = y
    · rw [if_pos e] at h; rw [if_pos e.symm]; exact lex_as xs ys h
    · rw [if_neg e] at h; rw [if_neg (Ne.symm e)]
      have := of_decide_eq_true h
      exact decide_eq_false (by omega)
theorem lex_tr : ∀ a b c : List Int, HT.lexLt b a = false → HT.lexLt c b = false → HT.lexLt c a = false
  | [], _, [], _, _ => rfl
  | [], _, _ :: _, _, _ => rfl
  | x :: xs, [], _, h, _ => by cases h
  | x :: xs, y :: ys, [], _, h => by cases h
  | x :: xs, y :: ys, z :: zs, h, k => by
    rw [HT.lexLt_cons] at h k ⊢
    by_cases e : y = x
    · rw [if_pos e] at h
      by_cases e' : z = y
      · rw [if_pos e'] at k; rw [if_pos (e'.trans e)]; exact lex_tr xs ys zs h k
      · rw [if_neg e'] at k
        subst e
        rw [if_neg e']; exact k
    · rw [if_neg e] at h
      have h := of_decide_eq_false h
      by_cases e' : z = y
      · subst e'; rw [if_neg e]; exact decide_eq_false h
      · rw [if_neg e'] at k
        have k := of_decide_eq_false k
        rw [if_neg (by omega)]
        exact decide_eq_false (by omega)
theorem lex_eq : ∀ a b : List Int, HT.lexLt a b = false → HT.lexLt b a = false → a = b
  | [], [], _, _ => rfl
  | [], _ :: _, h, _ => by cases h
  | _ :: _, [], _, h => by cases h
  | x :: xs, y :: ys, h, k => by
    rw [HT.lexLt_cons] at h k
    by_cases e : x = y
    · rw [if_pos e] at h; rw [if_pos e.symm] at k; rw [e, lex_eq xs ys h k]
    · rw [if_neg e] at h; rw [if_neg (Ne.symm e)] at k
      have h := of_decide_eq_false h
      have k := of_decide_eq_false k
      omega
theorem intsD_inj : ∀ {xs ys : List PyData} {ns : List Int}, intsD xs = some ns → intsD ys = some ns → xs = ys := by
  have go : ∀ {xs : List PyData} {ns : List Int}, intsD xs = some ns → xs = ns.map .int := by
    intro xs
    induction xs with
    | nil => intro ns h; cases h; rfl
    | cons d ds ih =>
      intro ns h
      cases d with
      | int n =>
        have h : (intsD ds).bind (fun ns => some (n :: ns)) = some ns := h
        obtain ⟨ms, h1, h2⟩ := Option.bind_eq_some_iff.mp h
        cases h2
        rw [ih h1]; rfl
      | _ => cases h
  intro xs ys ns h k
  rw [go h, go k]
theorem ltItem_is {x y : PyData} {c : Bool} (h : ltItem x y = some c) : (∃ a b, x = .int a ∧ y = .int b ∧ c = decide (a < b)) ∨ ∃ xs ys ns ms, x = .tuple xs ∧ y = .tuple ys ∧ intsD xs = some ns ∧ intsD ys = some ms ∧ c = HT.lexLt ns ms := by
  unfold ltItem at h
  split at h
  · cases h; exact .inl ⟨_, _, rfl, rfl, rfl⟩
  · obtain ⟨ns, h1, h⟩ := Option.bind_eq_some_iff.mp h
    obtain ⟨ms, h2, h⟩ := Option.bind_eq_some_iff.mp h
    cases h
    exact .inr ⟨_, _, _, _, rfl, rfl, h1, h2, rfl⟩
  · cases h
theorem item_rev {x y : PyData} {c : Bool} (h : ltItem x y = some c) : ∃ d, ltItem y x = some d ∧ (c = true → d = false) ∧ (c = false → d = false → x = y) := by
  rcases ltItem_is h with ⟨a, b, rfl, rfl, rfl⟩ | ⟨xs, ys, ns, ms, rfl, rfl, h1, h2, rfl⟩
  · refine ⟨decide (b < a), rfl, fun z => decide_eq_false (by have := of_decide_eq_true z; omega), fun z z' => ?_⟩
    have z := of_decide_eq_false z
    have z' := of_decide_eq_false z'
    rw [show a = b by omega]
  · refine ⟨HT.lexLt ms ns, ?_, fun z => lex_as _ _ z, fun z z' => ?_⟩
    · show (intsD ys).bind _ = _
      rw [h2]
      show (intsD xs).bind _ = _
      rw [h1]; rfl
    · have := lex_eq _ _ z z'
      subst this
      rw [intsD_inj h1 h2]
theorem item_tr {x y z : PyData} (h : ltItem y x = some false) (k : ltItem z y = some false) : ltItem z x = some false := by
  rcases ltItem_is h with ⟨a, b, rfl, rfl, hh⟩ | ⟨xs, ys, ns, ms, rfl, rfl, h1, h2, hh⟩
  · rcases ltItem_is k with ⟨c, d, rfl, e, kk⟩ | ⟨_, _, _, _, _, e, _⟩
    · cases e
      have hh := of_decide_eq_false hh.symm
      have kk := of_decide_eq_false kk.symm
      show some (decide (c < b)) = some false
      rw [decide_eq_false (by omega)]
    · cases e
  · rcases ltItem_is k with ⟨c, d, rfl, e, kk⟩ | ⟨zs, ys', ns', ms', rfl, e, k1, k2, kk⟩
    · cases e
    · cases e
      rw [h1] at k2; cases k2
      have := lex_tr _ _ _ hh.symm kk.symm
      show (intsD zs).bind _ = _
      rw [k1]
      show (intsD ys).bind _ = _
      rw [h2]
      show some _ = some false
      rw [this]
theorem row_as : ∀ a b : List PyData, onlyTs a = true → onlyTs b = true → ltRow a b = some true → ltRow b a = some false
  | [], [], _, _, h => by cases h
  | [], _ :: _, _, _, _ => rfl
  | _ :: _, [], _, _, h => by cases h
  | x :: xs, y :: ys, p, q, h => by
    unfold onlyTs at p q
    rw [Bool.and_eq_true] at p q
    have h : (if PyData.eqv x y = true then ltRow xs ys else ltItem x y) = some true := h
    show (if PyData.eqv y x = true then ltRow ys xs else ltItem y x) = some false
    by_cases e : PyData.eqv x y = true
    · rw [if_pos e] at h
      have e' := (eqvT x y p.1 q.1).mp e
      rw [if_pos ((eqvT y x q.1 p.1).mpr e'.symm)]
      exact row_as xs ys p.2 q.2 h
    · rw [if_neg e] at h
      rw [if_neg fun z => e ((eqvT x y p.1 q.1).mpr ((eqvT y x q.1 p.1).mp z).symm)]
      obtain ⟨d, h1, h2, _⟩ := item_rev h
      rw [h1, h2 rfl]
theorem row_tr : ∀ a b c : List PyData, onlyTs a = true → onlyTs b = true → onlyTs c = true → ltRow b a = some false → ltRow c b = some false → ltRow c a = some false
  | [], _, [], _, _, _, _, _ => rfl
  | [], _, _ :: _, _, _, _, _, _ => rfl
  | x :: xs, [], _, _, _, _, h, _ => by cases h
  | x :: xs, y :: ys, [], _, _, _, _, h => by cases h
  | x :: xs, y :: ys, z :: zs, p, q, r, h, k => by
    unfold onlyTs at p q r
    rw [Bool.and_eq_true] at p q r
    have hA : (if PyData.eqv y x = true then ltRow ys xs else ltItem y x) = some false := h
    clear h
    have kA : (if PyData.eqv z y = true then ltRow zs ys else ltItem z y) = some false := k
    clear k
    show (if PyData.eqv z x = true then ltRow zs xs else ltItem z x) = some false
    by_cases e : PyData.eqv y x = true
    · rw [if_pos e] at hA
      have e1 := (eqvT y x q.1 p.1).mp e
      subst e1
      by_cases e' : PyData.eqv z y = true
      · rw [if_pos e'] at kA ⊢
        exact row_tr xs ys zs p.2 q.2 r.2 hA kA
      · rw [if_neg e'] at kA ⊢; exact kA
    · rw [if_neg e] at hA
      by_cases e' : PyData.eqv z y = true
      · have e1 := (eqvT z y r.1 q.1).mp e'
        subst e1
        rw [if_neg e]; exact hA
      · rw [if_neg e'] at kA
        have ez : ¬ PyData.eqv z x = true := fun w => by
          have w := (eqvT z x r.1 p.1).mp w
          subst w
          obtain ⟨d, h1, _, h3⟩ := item_rev hA
          rw [h1] at kA; cases kA
          exact e ((eqvT y z q.1 p.1).mpr (h3 rfl rfl))
        rw [if_neg ez]
        exact item_tr hA kA
theorem ltIx_ord {rows : List (List PyData)} (h : sortable rows = true) : Ord2 (ltIx rows) := by
  obtain ⟨a1, a2, a3, a4, a5⟩ := sortable_of h
  have onl : ∀ i, onlyTs (rows.getD i []) = true := fun i => by
    rw [List.getD_eq_getElem?_getD]
    cases e : rows[i]? with
    | none => rfl
    | some r => exact (a3 r (List.mem_of_getElem? e)).2
  have out : ∀ i, ¬ i < rows.length → rows.getD i [] = [] := fun i hi => by
    rw [List.getD_eq_getElem?_getD, List.getElem?_eq_none (by omega)]; rfl
  have ans : ∀ i j, ∃ c, ltRow (rows.getD i []) (rows.getD j []) = some c := fun i j => by
    by_cases hi : i < rows.length
    · by_cases hj : j < rows.length
      · exact Option.isSome_iff_exists.mp (a5 i j hi hj)
      · rw [out j hj]
        cases rows.getD i [] with
        | nil => exact ⟨_, rfl⟩
        | cons _ _ => exact ⟨_, rfl⟩
    · rw [out i hi]; exact ⟨_, rfl⟩
  have is : ∀ i j c, ltIx rows i j = c → ltRow (rows.getD i []) (rows.getD j []) = some c := fun i j c e => by
    obtain ⟨d, hd⟩ := ans i j
    unfold ltIx at e
    rw [hd] at e ⊢
    exact congrArg some e
  have un : ∀ i j c, ltRow (rows.getD i []) (rows.getD j []) = some c → ltIx rows i j = c := fun i j c e => by
    unfold ltIx; rw [e]; rfl
  exact ⟨fun a b e => un _ _ _ (row_as _ _ (onl a) (onl b) (is _ _ _ e)), fun a b c e e' => un _ _ _ (row_tr _ _ _ (onl a) (onl b) (onl c) (is _ _ _ e) (is _ _ _ e'))⟩
theorem sortIx_sorted {rows : List (List PyData)} (h : sortable rows = true) : SortedT (ltIx rows) (kRun (ltIx rows) (PySem.W.kas_sort rows.length)) rows.length :=
  (KS.run (ks_sort (ltIx_ord h) (by have := (sortable_of h).1; omega))).2
end L2

end

section
set_option Elab.async false
set_option linter.all false
set_option maxRecDepth 100000
set_option maxHeartbeats 4000000
namespace L2
open PySem PySem.Spec PyProof.Rows
end L2

end

section
set_option Elab.async false
set_option linter.all false
set_option maxRecDepth 100000
set_option maxHeartbeats 4000000
namespace L2
open PySem PySem.Spec PyProof.Rows
structure Kp (X : Cx) (H : Hp) (B h : Heap) : Prop where
  trk : ∀ b u o, H b = some u → h.get? b = some o → B.get? b = some o
  ent : ∀ b o, X.s₀.heap.get? b = some o → b ∉ X.fs → (∃ o', B.get? b = some o') ∧ (X.H₀ b = none → B.get? b = some o)
  pin : ∀ p ∈ X.pn, B.get? p.1 = some p.2
end L2

end

section
set_option Elab.async false
set_option linter.all false
set_option maxRecDepth 100000
set_option maxHeartbeats 4000000
namespace L2
open PySem PySem.Spec PyProof.Rows
end L2

end

section
set_option Elab.async false
set_option linter.all false
set_option maxRecDepth 100000
set_option maxHeartbeats 4000000
namespace L2
open PySem PySem.Spec PyProof.Rows
section
variable {X : Cx} {pins : List (Addr × Obj)} {σ : St} {H : Hp} {s : Shared}
end
end L2

end

section
set_option Elab.async false
set_option linter.all false
set_option maxRecDepth 100000
set_option maxHeartbeats 4000000
namespace L2
open PySem PySem.Spec PyProof.Rows
structure Exc where
  nm : Str
  fs : List (Str × CD)
inductive Rs where
  | v (x : CD) | x (e : Exc)
inductive OutX where
  | o (o : Out) | xc (γ : Ga) (e : Exc)
abbrev EX := Ga → Sto → Option (Rs × Sto)
abbrev AX := Ga → Sto → Option ((List CD ⊕ Exc) × Sto)
abbrev SFX := Ga → Sto → Option (OutX × Sto)
section
variable {K : PySem.W.Frag} {EE : St → XK} {ta tb : TE} {tA : TA} {t u : TS} {f g : EX} {fa : AX} {p q : SFX} {tt : TT} {ft : TF} {tg : TG} {hg : GF}
end
end L2

end

section
set_option Elab.async false
set_option linter.all false
set_option maxRecDepth 100000
set_option maxHeartbeats 4000000
namespace L2
open PySem PySem.Spec PyProof.Rows
section
variable {ι : Type}
variable {K : PySem.W.Frag} {X : ι → Cx} {EE : ι → St → XK} {e a b c tg iter : Expr} {es : List Expr} {f g : EX} {fa : AX} {p q : SFX} {ft : TF} {gf : GF} {st : Stmt} {sts sts' : List Stmt} {pos : Pos}
end
section
variable {K : PySem.W.Frag} {cv : Value} {a : Str} {b : Bool} {l : List (Str × Bool)}
theorem clOf_of {nm : Str} {C : Addr} (h : PySem.W.nsIn K mainGlobals nm = some (some (.ref C))) : clOf K nm = C := by unfold clOf; rw [h]
end
end L2

end

section
set_option Elab.async false
set_option linter.all false
set_option maxRecDepth 100000
set_option maxHeartbeats 4000000
namespace L2
open PySem PySem.Spec PyProof.Rows
mutual
def snap : Nat → Sto → CD → Option PyData
  | _, _, .d x => some x
  | 0, _, .c _ => none
  | n + 1, M, .c i => match M[i]? with
    | some (.lst xs) => (snaps n M xs).bind fun ds => some (.list ds)
    | _ => none
def snaps : Nat → Sto → List CD → Option (List PyData)
  | _, _, [] => some []
  | n, M, x :: xs => (snap n M x).bind fun d => (snaps n M xs).bind fun ds => some (d :: ds)
end
section
variable {K : PySem.W.Frag} {W : Wd} {M : Sto} {H : Hp}
theorem Good.lstAt' (G : Good K W M H) {i : Nat} {xs : List CD} (h : M[i]? = some (.lst xs)) : ∃ vs, H (W.α i) = some (.lst vs) ∧ RepVs K W xs vs := by
  obtain ⟨_, o, h2, h3⟩ := G.cs i _ h (by intro z; cases z)
  cases o with
  | lst vs => exact ⟨vs, h2, h3⟩
  | _ => exact False.elim h3
mutual
theorem snap_rep (G : Good K W M H) : ∀ (n : Nat) (x : CD) (d : PyData) (v : V), snap n M x = some d → RepV K W x v → Rep K H d v
  | 0, .d x, d, v, h, r => by unfold snap at h; cases h; exact Rep.same G.fh _ _ r
  | n + 1, .d x, d, v, h, r => by unfold snap at h; cases h; exact Rep.same G.fh _ _ r
  | 0, .c i, d, v, h, r => by unfold snap at h; cases h
  | n + 1, .c i, d, v, h, r => by
    unfold snap at h
    cases e : M[i]? with
    | none => rw [e] at h; cases h
    | some c =>
      rw [e] at h
      cases c with
      | lst xs =>
        obtain ⟨ds, h1, h⟩ := bindE (show (snaps n M xs).bind _ = _ from h)
        cases h
        obtain ⟨vs, h2, h3⟩ := G.lstAt' e
        exact ⟨W.α i, vs, r.2, SqL.of h2, snaps_rep G n xs ds vs h1 h3⟩
      | _ => cases h
theorem snaps_rep (G : Good K W M H) : ∀ (n : Nat) (xs : List CD) (ds : List PyData) (vs : List V), snaps n M xs = some ds → RepVs K W xs vs → RepAll K H ds vs
  | _, [], ds, vs, h, r => by
    unfold snaps at h
    cases h
    cases r
    rfl
  | n, x :: xs, ds, vs, h, r => by
    unfold snaps at h
    obtain ⟨d, h1, h⟩ := bindE h
    obtain ⟨es, h2, h⟩ := bindE h
    cases h
    cases r with
    | @cons _ v _ vs' r1 r2 => exact ⟨v, vs', rfl, snap_rep G n x d v h1 r1, snaps_rep G n xs es vs' h2 r2⟩
end
end
def reprC : FN := fun xs M => match xs with
  | [x] => (snap 5 M x).bind fun d => if shownOk d = true then some (.d (.str d.shown), M) else none
  | _ => none
theorem snap_d {n : Nat} {M : Sto} {x : PyData} : snap n M (.d x) = some x := by cases n <;> simp only [snap]
theorem reprC_d {x : PyData} {M : Sto} : reprC [.d x] M = reprF [.d x] M := by unfold reprC reprF; dsimp only; rw [snap_d]; rfl
theorem pn_reprC {K : PySem.W.Frag} : PN K (rRepr K) reprC := by
  intro xs M z M' h W H vs Q G r k
  unfold reprC at h
  split at h
  · rename_i x
    obtain ⟨d, h1, h⟩ := bindE h
    by_cases hs : shownOk d = true
    · rw [if_pos hs] at h
      cases h
      rcases r with _ | ⟨r1, _ | _⟩
      have hs' := hs
      unfold shownOk at hs
      rw [Bool.and_eq_true, Bool.and_eq_true] at hs
      exact ⟨_, d, rfl, snap_rep G 5 x d _ h1 r1, hs.1.1, of_decide_eq_true hs.1.2, of_decide_eq_true hs.2, k _ W H (.refl _) G rfl⟩
    · rw [if_neg hs] at h; cases h
  · cases h
theorem q_reprC {ι : Type} {K : PySem.W.Frag} {X : ι → Cx} (hK : ∀ i, (X i).K = K) (hg : ∀ i, (X i).A.guards = some []) (hu : ∀ i, (X i).A.units + 200 < cLine) : QN K X (.builtin "repr") reprC := ⟨_, fun i => kRepr (hK i) (hg i) (hu i), pn_reprC⟩
end L2

end

section
set_option Elab.async false
set_option linter.all false
set_option maxRecDepth 100000
set_option maxHeartbeats 4000000
namespace L2
open PySem PySem.Spec PyProof.Rows PySem.Builtin PySem.Builtin.ObjectAttr
end L2

end

section
set_option Elab.async false
set_option linter.all false
set_option maxRecDepth 100000
set_option maxHeartbeats 4000000
namespace L2
open PySem PySem.Spec PyProof.Rows
end L2

end

section
set_option Elab.async false
set_option linter.all false
set_option maxRecDepth 100000
set_option maxHeartbeats 4000000
namespace L2
open PySem PySem.Spec PyProof.Rows
end L2

end

section
set_option Elab.async false
set_option linter.all false
set_option maxRecDepth 100000
set_option maxHeartbeats 4000000
namespace L2
open PySem PySem.Spec PyProof.Rows
end L2

end

section
set_option Elab.async false
set_option linter.all false
set_option maxRecDepth 100000
set_option maxHeartbeats 4000000
namespace L2
open PySem PySem.Spec PyProof.Rows
end L2

end

section
set_option Elab.async false
set_option linter.all false
set_option maxRecDepth 100000
set_option maxHeartbeats 4000000
namespace L2
open PySem PySem.Spec PyProof.Rows
section
variable {P : Program} {w : World} {K : PySem.W.Frag} {mg : Str → Option Value} {base : Heap}
theorem mdef_mk {nm m qual : Str} {st : Stmt} {C f : Addr} {oc : Value} {od an : Option Addr} {osl : Array (Option Value)} {kV doc pm cdv ct : Value} (hC : clOf K nm = C) (hf : PySem.W.findIn K (.ref C) m = some (some (.ref f)))
    (l : K.lookup f = some ⟨oc, od, .func (PySem.W.fnOf m qual (defArgs st) (defBody st) (defScope st) .none kV doc pm an cdv ct), osl⟩) (c : PySem.W.codeIn K cdv qual = true) (k : PySem.W.keepIn K (.ref f) = true) (fn : PySem.W.isFn K (.ref f) = true) : MDef K nm m qual st :=
  ⟨f, _, fun_mk l c k, by rw [hC]; exact hf, fn⟩
end
end L2

end

section
set_option Elab.async false
set_option linter.all false
set_option maxRecDepth 100000
set_option maxHeartbeats 4000000
namespace L2
open PySem PySem.Spec PyProof.Rows
end L2

end

section
set_option Elab.async false
set_option linter.all false
set_option maxRecDepth 100000
set_option maxHeartbeats 4000000
namespace L2
open PySem PySem.Spec PyProof.Rows
abbrev KY := Key ⊕ List Key
abbrev KF := Ga → Sto → Option (KY × Sto)
def KRep (W : Wd) : KY → V → Prop
  | .inl k, v => v = kV k
  | .inr ks, v => ∃ b, v = .ref b ∧ W.F b = some (.tup (ks.map kV))
theorem KRep.up {W W' : Wd} {k : KY} {v : V} (h : KRep W k v) (e : W.Ext W') : KRep W' k v := by
  cases k with
  | inl k => exact h
  | inr ks => obtain ⟨b, h1, h2⟩ := h; exact ⟨b, h1, e.ff _ _ h2⟩
section
variable {K : PySem.W.Frag}
def SK (K : PySem.W.Frag) (t : TE) (f : KF) : Prop := ∀ γ M k M', f γ M = some (k, M') → ∀ (W : Wd) (H : Hp) (σ : St) (Q : VK), Good K W M H → RepS K W γ σ → (∀ v W' H', W.Ext W' → Good K W' M' H' → KRep W' k v → Q v H') → t σ H Q
def keysOf : List CD → Option (List Key)
  | [] => some []
  | x :: xs => (keyOf x).bind fun k => (keysOf xs).bind fun ks => some (k :: ks)
def kTup (fa : AF) : KF := fun γ M => (fa γ M).bind fun r => (keysOf r.1).bind fun ks => if ks.length ≤ sizeLine then some (.inr ks, r.2) else none
variable {t td ty tx tv : TE} {tA : TA} {f fo fx fv : EF} {fk : KF} {fa : AF}
theorem keysOf_rep {W : Wd} : ∀ {xs : List CD} {ks : List Key} {vs : List V}, keysOf xs = some ks → RepVs K W xs vs → vs = ks.map kV
  | [], ks, vs, h, r => by cases h; cases r; rfl
  | x :: xs, ks, vs, h, r => by
    obtain ⟨k, h1, h⟩ := bindE h
    obtain ⟨ks', h2, h⟩ := bindE h
    cases h
    cases r with
    | cons r1 r2 => rw [keyOf_rep h1 r1, keysOf_rep h2 r2]; rfl
theorem sk_tup (b : SA K tA fa) : SK K (tTup tA) (kTup fa) := by
  intro γ M k M' hh W H σ Q G R c
  obtain ⟨⟨ys, M1⟩, h1, hh⟩ := bindE hh
  obtain ⟨ks, h2, hh⟩ := bindE hh
  by_cases hl : ks.length ≤ sizeLine
  · rw [if_pos hl] at hh
    cases hh
    refine b _ _ _ _ h1 W H σ _ G R fun vs W1 H1 e1 G1 r1 => ?_
    have ev := keysOf_rep h2 r1
    refine ⟨by rw [ev, List.length_map]; exact hl, fun p hp => ?_⟩
    obtain ⟨e2, G2⟩ := G1.lay (o := .tup vs) hp
    exact c _ _ _ (e1.trans e2) G2 ⟨p, rfl, by show upd W1.F p (.tup vs) p = _; rw [upd_same, ev]⟩
  · rw [if_neg hl] at hh; cases hh
section
variable {κ : Type} [DecidableEq κ]
def lkC (kvs : List (κ × CD)) (k : κ) : Option CD := (kvs.find? fun kv => decide (kv.1 = k)).map (·.2)
def putD (kvs : List (κ × CD)) (k : κ) (v : CD) : List (κ × CD) :=
  if (kvs.any fun kv => decide (kv.1 = k)) = true then kvs.map (fun kv => if kv.1 = k then (kv.1, v) else kv) else kvs ++ [(k, v)]
abbrev PKV (K : PySem.W.Frag) (W : Wd) (kvs : List (κ × CD)) (us : List (κ × V)) : Prop := Paired (fun p q => p.1 = q.1 ∧ RepV K W p.2 q.2) kvs us
theorem lk_pair {W : Wd} {k : κ} : ∀ {kvs : List (κ × CD)} {us : List (κ × V)}, PKV K W kvs us → RepO K W (lkC kvs k) (valV us k)
  | _, _, .nil => True.intro
  | _, _, .cons (a := p) (b := q) (l₁ := ps) (l₂ := qs) r1 r2 => by
    by_cases h : p.1 = k
    · have h' : q.1 = k := r1.1 ▸ h
      rw [show lkC (p :: ps) k = some p.2 by simp [lkC, List.find?_cons, h], show valV (q :: qs) k = some q.2 by simp [valV, List.find?_cons, h']]
      exact r1.2
    · have h' : ¬ q.1 = k := r1.1 ▸ h
      rw [show lkC (p :: ps) k = lkC ps k by simp [lkC, List.find?_cons, h], show valV (q :: qs) k = valV qs k by simp [valV, List.find?_cons, h']]
      exact lk_pair r2
theorem any_pair {W : Wd} {k : κ} : ∀ {kvs : List (κ × CD)} {us : List (κ × V)}, PKV K W kvs us → (kvs.any fun kv => decide (kv.1 = k)) = us.any fun kv => decide (kv.1 = k)
  | _, _, .nil => rfl
  | _, _, .cons r1 r2 => by rw [List.any_cons, List.any_cons, any_pair r2, r1.1]
theorem map_pair {W : Wd} {k : κ} {x : CD} {v : V} (rv : RepV K W x v) : ∀ {kvs : List (κ × CD)} {us : List (κ × V)}, PKV K W kvs us → PKV K W (kvs.map fun kv => if kv.1 = k then (kv.1, x) else kv) (us.map fun kv => if kv.1 = k then (kv.1, v) else kv)
  | _, _, .nil => .nil
  | _, _, .cons (a := p) (b := q) r1 r2 => by
    rw [List.map_cons, List.map_cons]
    refine .cons ?_ (map_pair rv r2)
    by_cases h : p.1 = k
    · rw [if_pos h, if_pos (r1.1 ▸ h)]; exact ⟨r1.1, rv⟩
    · rw [if_neg h, if_neg (r1.1 ▸ h)]; exact r1
theorem putD_pair {W : Wd} {k : κ} {x : CD} {v : V} {kvs : List (κ × CD)} {us : List (κ × V)} (r : PKV K W kvs us) (rv : RepV K W x v) : PKV K W (putD kvs k x) (putK us k v) := by
  unfold putD putK
  rw [any_pair r]
  split
  · exact map_pair rv r
  · exact Paired.app r (.cons ⟨rfl, rv⟩ .nil)
end
def atD (M : Sto) : CD → KY → Option (Option CD)
  | .c i, .inl k => match M[i]? with
    | some (.dk kvs) => some (lkC kvs k)
    | _ => none
  | .c i, .inr ks => match M[i]? with
    | some (.dt kvs) => some (lkC kvs ks)
    | _ => none
  | _, _ => none
def setD (M : Sto) : CD → KY → CD → Option Sto
  | .c i, .inl k, x => match M[i]? with
    | some (.dk kvs) => if kvs.length < sizeLine then some (M.set i (.dk (putD kvs k x))) else none
    | _ => none
  | .c i, .inr ks, x => match M[i]? with
    | some (.dt kvs) => if kvs.length < sizeLine then some (M.set i (.dt (putD kvs ks x))) else none
    | _ => none
  | _, _, _ => none
def isDc (M : Sto) : CD → Bool
  | .c i => match M[i]? with
    | some (.dk _) => true
    | some (.dt _) => true
    | _ => false
  | _ => false
theorem Good.dkAt {W : Wd} {M : Sto} {H : Hp} {i : Nat} {kvs : List (Key × CD)} (G : Good K W M H) (h : M[i]? = some (.dk kvs)) : ∃ us, H (W.α i) = some (.dK us) ∧ PKV K W kvs us := by
  obtain ⟨_, o, h2, h3⟩ := G.cs i _ h (by intro z; cases z)
  cases o <;> first | exact ⟨_, h2, h3⟩ | exact False.elim h3
theorem Good.dtAt {W : Wd} {M : Sto} {H : Hp} {i : Nat} {kvs : List (List Key × CD)} (G : Good K W M H) (h : M[i]? = some (.dt kvs)) : ∃ us, H (W.α i) = some (.dT us) ∧ PKV K W kvs us := by
  obtain ⟨_, o, h2, h3⟩ := G.cs i _ h (by intro z; cases z)
  cases o <;> first | exact ⟨_, h2, h3⟩ | exact False.elim h3
theorem atD_rep {W : Wd} {M : Sto} {H : Hp} {x : CD} {k : KY} {r : Option CD} {v y : V} (G : Good K W M H) (h : atD M x k = some r) (rx : RepV K W x v) (ry : KRep W k y) : ∃ a o, v = .ref a ∧ DGet H a y o ∧ RepO K W r o := by
  unfold atD at h
  split at h
  · rename_i i k'
    split at h
    · rename_i kvs hk
      cases h
      obtain ⟨us, h1, h2⟩ := G.dkAt hk
      refine ⟨_, _, rx.2, ?_, lk_pair h2⟩
      rw [show y = kV k' from ry]
      exact DGet.k h1
    · cases h
  · rename_i i ks
    split at h
    · rename_i kvs hk
      cases h
      obtain ⟨us, h1, h2⟩ := G.dtAt hk
      obtain ⟨b, rfl, hb⟩ := ry
      exact ⟨_, _, rx.2, DGet.t h1 (G.fh _ _ hb), lk_pair h2⟩
    · cases h
  · cases h
theorem isDc_rep {W : Wd} {M : Sto} {H : Hp} {x : CD} {v : V} (G : Good K W M H) (h : isDc M x = true) (rx : RepV K W x v) : ∃ a, v = .ref a ∧ IsD H a := by
  unfold isDc at h
  split at h
  · rename_i i
    split at h
    · rename_i kvs hk
      obtain ⟨us, h1, _⟩ := G.dkAt hk
      exact ⟨_, rx.2, .inl ⟨us, .inl h1⟩⟩
    · rename_i kvs hk
      obtain ⟨us, h1, _⟩ := G.dtAt hk
      exact ⟨_, rx.2, .inr ⟨us, .inl h1⟩⟩
    · cases h
  · cases h
theorem setD_rep {W : Wd} {M M' : Sto} {H : Hp} {x z : CD} {k : KY} {v y u : V} (G : Good K W M H) (h : setD M x k z = some M') (rx : RepV K W x v) (ry : KRep W k y) (rz : RepV K W z u) : ∃ a H', v = .ref a ∧ DPut H a y u H' ∧ Good K W M' H' := by
  unfold setD at h
  split at h
  · rename_i z' i k'
    split at h
    · rename_i kvs hk
      by_cases hl : kvs.length < sizeLine
      · rw [if_pos hl] at h
        cases h
        obtain ⟨us, h1, h2⟩ := G.dkAt hk
        refine ⟨_, _, rx.2, ?_, G.set hk (by intro q; cases q) (o' := .dK (putK us k' u)) (putD_pair h2 rz)⟩
        rw [show y = kV k' from ry]
        exact DPut.k h1 (by rw [← Paired.len h2]; exact hl)
      · rw [if_neg hl] at h; cases h
    · cases h
  · rename_i z' i ks
    split at h
    · rename_i kvs hk
      by_cases hl : kvs.length < sizeLine
      · rw [if_pos hl] at h
        cases h
        obtain ⟨us, h1, h2⟩ := G.dtAt hk
        obtain ⟨b, rfl, hb⟩ := ry
        exact ⟨_, _, rx.2, DPut.t h1 (G.fh _ _ hb) (by rw [← Paired.len h2]; exact hl), G.set hk (by intro q; cases q) (o' := .dT (putK us ks u)) (putD_pair h2 rz)⟩
      · rw [if_neg hl] at h; cases h
    · cases h
  · cases h
def fDNewT : EF := fun _ M => some (.c M.length, M ++ [.dt []])
def fDIn (neg : Bool) (fk : KF) (fo : EF) : EF := fun γ M => (fk γ M).bind fun k => (fo γ k.2).bind fun o => (atD o.2 o.1 k.1).bind fun r => some (.d (.bool (if neg then !r.isSome else r.isSome)), o.2)
def fDGet2 (fo : EF) (fk : KF) (fx : EF) : EF := fun γ M => (fo γ M).bind fun o => if isDc o.2 o.1 = true then (fk γ o.2).bind fun k => (fx γ k.2).bind fun x => (atD x.2 o.1 k.1).bind fun r => some (r.getD x.1, x.2) else none
def sDPutF (fo : EF) (fk : KF) (fv : EF) : SF := fun γ M => (fv γ M).bind fun v => (fo γ v.2).bind fun o => (fk γ o.2).bind fun k => (setD k.2 o.1 k.1 v.1).bind fun M' => some (.nx γ, M')
theorem se_dnewT : SE K tDNewT fDNewT := by
  intro γ M x M' hh W H σ Q G R k
  cases hh
  exact fun p hp => k _ (W.more p) _ (W.ext_more p) (G.new hp (c := .dt []) (o := .dT []) .nil) G.newV
theorem repO_some {W : Wd} {r : Option CD} {o : Option V} (h : RepO K W r o) : o.isSome = r.isSome := by
  cases r <;> cases o <;> first | rfl | exact False.elim h
theorem se_din (b : SK K ty fk) (a : SE K td fo) : SE K (tDIn ty td) (fDIn false fk fo) := by
  intro γ M x M' hh W H σ Q G R k
  obtain ⟨⟨ky, M1⟩, h1, hh⟩ := bindE hh
  obtain ⟨⟨o, M2⟩, h2, hh⟩ := bindE hh
  obtain ⟨r, h3, hh⟩ := bindE hh
  cases hh
  refine b _ _ _ _ h1 W H σ _ G R fun y W1 H1 e1 G1 r1 => a _ _ _ _ h2 W1 H1 σ _ G1 (R.up e1) fun v W2 H2 e2 G2 r2 => ?_
  obtain ⟨p, ov, ev, g, ro⟩ := atD_rep G2 h3 r2 (r1.up e2)
  refine ⟨p, ov, ev, g, k _ W2 H2 (e1.trans e2) G2 ?_⟩
  show _ = V.bl r.isSome
  rw [repO_some ro]
theorem se_dget2 (a : SE K td fo) (b : SK K ty fk) (c : SE K tx fx) : SE K (tDGet2 td ty tx) (fDGet2 fo fk fx) := by
  intro γ M x M' hh W H σ Q G R k
  obtain ⟨⟨o, M1⟩, h1, hh⟩ := bindE hh
  by_cases hd : isDc M1 o = true
  · have hh : (if isDc M1 o = true then (fk γ M1).bind fun k => (fx γ k.2).bind fun x => (atD x.2 o k.1).bind fun r => some (r.getD x.1, x.2) else none) = some (x, M') := hh
    rw [if_pos hd] at hh
    obtain ⟨⟨ky, M2⟩, h2, hh⟩ := bindE hh
    obtain ⟨⟨z, M3⟩, h3, hh⟩ := bindE hh
    obtain ⟨r, h4, hh⟩ := bindE hh
    cases hh
    refine a _ _ _ _ h1 W H σ _ G R fun v W1 H1 e1 G1 r1 => ?_
    obtain ⟨p, ev, id⟩ := isDc_rep G1 hd r1
    refine ⟨p, ev, id, b _ _ _ _ h2 W1 H1 σ _ G1 (R.up e1) fun y W2 H2 e2 G2 r2 => c _ _ _ _ h3 W2 H2 σ _ G2 (R.up (e1.trans e2)) fun u W3 H3 e3 G3 r3 => ?_⟩
    obtain ⟨p', ov, ev', g, ro⟩ := atD_rep G3 h4 ((r1.up e2).up e3) (r2.up e3)
    have : p' = p := by rw [ev] at ev'; cases ev'; rfl
    subst this
    refine ⟨ov, g, k _ W3 H3 ((e1.trans e2).trans e3) G3 ?_⟩
    cases r <;> cases ov <;> first | exact r3 | exact ro | exact False.elim ro
  · have hh : (if isDc M1 o = true then (fk γ M1).bind fun k => (fx γ k.2).bind fun x => (atD x.2 o k.1).bind fun r => some (r.getD x.1, x.2) else none) = some (x, M') := hh
    rw [if_neg hd] at hh; cases hh
theorem ss_dput (a : SE K td fo) (b : SK K ty fk) (c : SE K tv fv) : SS K (sDPut td ty tv) (sDPutF fo fk fv) := by
  intro γ M o M' hh W H σ D G R k
  obtain ⟨⟨z, M1⟩, h1, hh⟩ := bindE hh
  obtain ⟨⟨x, M2⟩, h2, hh⟩ := bindE hh
  obtain ⟨⟨ky, M3⟩, h3, hh⟩ := bindE hh
  obtain ⟨M4, h4, hh⟩ := bindE hh
  cases hh
  refine c _ _ _ _ h1 W H σ _ G R fun u W1 H1 e1 G1 r1 => a _ _ _ _ h2 W1 H1 σ _ G1 (R.up e1) fun v W2 H2 e2 G2 r2 => b _ _ _ _ h3 W2 H2 σ _ G2 (R.up (e1.trans e2)) fun y W3 H3 e3 G3 r3 => ?_
  obtain ⟨p, H4, ev, g, G4⟩ := setD_rep G3 h4 (r2.up e3) r3 ((r1.up e2).up e3)
  exact ⟨p, H4, ev, g, k W3 H4 ((e1.trans e2).trans e3) G4 σ (R.up ((e1.trans e2).trans e3))⟩
end
end L2

end

section
set_option Elab.async false
set_option linter.all false
set_option maxRecDepth 100000
set_option maxHeartbeats 4000000
namespace L2
open PySem PySem.Spec PyProof.Rows
section
variable {ι : Type}
structure MK (K : PySem.W.Frag) (X : ι → Cx) (e : Expr) (f : KF) : Prop where
  ex : ∃ t, (∀ i, PE (X i) e t) ∧ SK K t f
variable {K : PySem.W.Frag} {X : ι → Cx} {e o i a b : Expr} {es : List Expr} {f g fx : EF} {fk : KF} {fa : AF} {pos : Pos}
theorem mk_tup {k : Nat} (x : MA K X es fa) : MK K X (.Tuple es k pos) (kTup fa) := by
  obtain ⟨t, x1, x2⟩ := x.ex
  exact ⟨_, fun i => pe_tup (x1 i), sk_tup x2⟩
theorem me_dnewT : ME K X (.Dict [] [] pos) fDNewT := ⟨_, fun _ => pe_dnewT, se_dnewT⟩
theorem mt_din (hu : ∀ j, (X j).A.units + 1 < cLine) (y : MK K X i fk) (x : ME K X o f) (hm : behindInMarks .In o = false := by rfl) : MT K X (.Compare i [.In] [o] pos) (gB (fDIn false fk f)) := by
  obtain ⟨t, x1, x2⟩ := x.ex; obtain ⟨u, y1, y2⟩ := y.ex
  exact ⟨_, fun j => pt_cmp (pc_din (hu j) (y1 j) (x1 j)) hm, st_b (se_din y2 x2)⟩
theorem ms_dput {pos' : Pos} (hu : ∀ j, (X j).A.units + 1 < cLine) (x : ME K X o f) (y : MK K X i fk) (z : ME K X e g) (hs : ∀ j, swapsWith e (some (.Subscript o i pos')) pos.line (X j).env = pure false := by intro _; rfl) : MS K X (.Assign [.Subscript o i pos'] e pos) (sDPutF f fk g) := by
  obtain ⟨t, x1, x2⟩ := x.ex; obtain ⟨u, y1, y2⟩ := y.ex; obtain ⟨v, z1, z2⟩ := z.ex
  exact ⟨_, fun j => ps_dput (hu j) (x1 j) (y1 j) (z1 j) (hs j), ss_dput x2 y2 z2⟩
theorem me_dget2 {apos cpos : Pos} (hu : ∀ j, (X j).A.units + 1 < cLine) (x : ME K X o f) (y : MK K X e fk) (z : ME K X b g) (h1 : Star e [b]) (h2 : Star b []) (hb : ∀ env : Env, attributeBase o "get" env (eval o env) = eval o env := by intro _; rfl) (hl : (apos.endLine == cpos.line) = true := by rfl)  :
    ME K X (.Call (.Attribute o "get" apos) [e, b] [] cpos) (fDGet2 f fk g) := by
  obtain ⟨t, x1, x2⟩ := x.ex; obtain ⟨u, y1, y2⟩ := y.ex; obtain ⟨v, z1, z2⟩ := z.ex
  exact ⟨_, fun j => pe_dget2 (hu j) (x1 j) (y1 j) (z1 j) ⟨hb _, by rw [h1, h2]; rfl, hl, by rw [h1, h2]; rfl⟩, se_dget2 x2 y2 z2⟩
end
end L2

end

section
set_option Elab.async false
set_option linter.all false
set_option maxRecDepth 100000
set_option maxHeartbeats 4000000
namespace PySem
open Sem (wp)
open AutoSeq1 (wpAny_loadPart')
section
variable {prog : Program} {w : World} {A : Around} {E : Value → Shared → Prop} {s : Shared}
theorem l2_nextOf_tup {it l : Addr} {i : Nat} {items} {x : Value} {Q : Value → Shared → Prop} (hit : s.heap.IsTupleIter it l i) (hl : s.heap.IsTuple l items) (hx : items[i]? = some x)
    (hQ : ∀ h', h'.IsTupleIter it l (i + 1) → Heap.SameBut it s.heap h' → Q x { s with heap := h' }) : wpAny (model prog w) A (Builtin.SmallTypes.nextOf (.ref it)) Q E s := by
  obtain ⟨o, ho, hc, hd⟩ := id hit
  obtain ⟨ol, hol, _, nl, hdl⟩ := hl
  unfold Builtin.SmallTypes.nextOf
  refine wpAny_bind (wpAny_callSpecial?_slot (name := Str.ofString "__next__") hit.typeIs F.slot_tuple_iterator_next (wpAny_call_entry F.slot_tuple_iterator_next hit.typeIs F.entry_tuple_iterator_next ?_ (F.args_tuple_iterator_next_1 _)))
  show wpAny _ _ (field (.ref it) 0 >>= _) _ _ s
  refine wpAny_bind (wpAny_field ho hd (x := .ref l) rfl ?_)
  show wpAny _ _ (if (Value.ref l == Value.none) = true then _ else _) _ _ s
  rw [if_neg (show ¬ ((Value.ref l == Value.none) = true) from Bool.false_ne_true)]
  show wpAny _ _ (field (.ref it) 1 >>= _) _ _ s
  refine wpAny_bind (wpAny_field ho hd (x := .int i 0) rfl ?_)
  show wpAny _ _ (seqItems? (.ref l) >>= _) _ _ s
  refine wpAny_bind (wpAny_seqItems hol hdl ?_)
  simp only [Int.toNat_natCast, hx]
  refine wpAny_bind (wpAny_setField ho hd (by simp) (wpAny_pure ⟨x, rfl, wpAny_pure (hQ _ ?_ (Heap.SameBut.update ..))⟩))
  exact ⟨_, Heap.get?_update_self _ ho (Obj.isFreed_of_fields (Obj.data_mapFields hd _)), (Obj.cls_mapFields ..).trans hc, by rw [Obj.data_mapFields hd]; simp [rawInt]⟩
theorem l2_nextOf_tupEnd {it l : Addr} {i : Nat} {items} {Q : Value → Shared → Prop} (hh : A.handled = none) (hit : s.heap.IsTupleIter it l i) (hl : s.heap.IsTuple l items) (hx : items[i]? = none)
    (hE : ∀ h' e, Heap.ExtBut it s.heap h' → (∃ o, h'.get? e = some o ∧ o.cls = .type "StopIteration") → E (.ref e) { s with heap := h' }) : wpAny (model prog w) A (Builtin.SmallTypes.nextOf (.ref it)) Q E s := by
  obtain ⟨o, ho, hc, hd⟩ := id hit
  obtain ⟨ol, hol, _, nl, hdl⟩ := hl
  unfold Builtin.SmallTypes.nextOf
  refine wpAny_bind (wpAny_callSpecial?_slot (name := Str.ofString "__next__") hit.typeIs F.slot_tuple_iterator_next (wpAny_call_entry F.slot_tuple_iterator_next hit.typeIs F.entry_tuple_iterator_next ?_ (F.args_tuple_iterator_next_1 _)))
  show wpAny _ _ (field (.ref it) 0 >>= _) _ _ s
  refine wpAny_bind (wpAny_field ho hd (x := .ref l) rfl ?_)
  show wpAny _ _ (if (Value.ref l == Value.none) = true then _ else _) _ _ s
  rw [if_neg (show ¬ ((Value.ref l == Value.none) = true) from Bool.false_ne_true)]
  show wpAny _ _ (field (.ref it) 1 >>= _) _ _ s
  refine wpAny_bind (wpAny_field ho hd (x := .int i 0) rfl ?_)
  show wpAny _ _ (seqItems? (.ref l) >>= _) _ _ s
  refine wpAny_bind (wpAny_seqItems hol hdl ?_)
  simp only [Int.toNat_natCast, hx]
  refine wpAny_bind (wpAny_rule (wpAny_bind (wpAny_setField ho hd (by simp) ?_)))
  show wpAny _ _ (newExc (.type "StopIteration") [] >>= _) _ _ _
  refine wpAny_bind ?_
  simp only [newExc, newTuple]
  refine wpAny_bind (wpAny_newObj_type ?_ (by size_fits))
  refine wpAny_bind (m := firstArgMember _ _) (wpAny_of_eq (a := Value.none) (by first | rfl | (simp only [firstArgMember]; rfl)) ?_)
  refine wpAny_newObj_type ?_ (by size_fits)
  simp only [raiseNew]
  refine wpAny_bind (wpAny_handled ?_)
  first | rw [show A.in1.handled = none from hh] | rw [hh]
  refine wpAny_bind (wpAny_pure (wpAny_throw ?_))
  exact hE _ _ (((Heap.SameBut.update ..).extBut.push _).push _) ⟨_, Heap.get?_push_size _ rfl, rfl⟩
end
theorem l2_drawsT {prog : Program} {w : World} {A : Around} (hh : A.handled = none) (it l : Addr) (hne : l ≠ it) (items : Array Value) :
    Draws prog w A it [it, l] items.size (fun i v => items[i]? = some v) (fun i h => h.IsTupleIter it l i ∧ h.IsTuple l items) where
  live := fun _ _ st => let ⟨o, ho, _⟩ := st.1; ⟨o, ho⟩
  frame := fun _ _ _ st hk => ⟨st.1.at fun o e => hk it (by simp) o e, let ⟨o, ho, r⟩ := st.2; ⟨o, hk l (by simp) o ho, r⟩⟩
  item := fun i s Q E hi st hQ => by
    refine l2_nextOf_tup st.1 st.2 (x := items[i]) (by simp [hi]) fun h' hit' hs' => ?_
    exact hQ _ h' s.toks (by simp [hi]) ⟨hit', let ⟨o, ho, r⟩ := st.2; ⟨o, (hs'.2 l hne).trans ho, r⟩⟩ hs'
  done := fun s Q E st hE => l2_nextOf_tupEnd hh st.1 st.2 (by simp) hE
theorem l2_meets_enumT (l : Addr) (items : Array Value) (n : Nat) (dct : Option Addr) (sl : Array (Option Value)) :
    Meets (Builtin.«enumerate.__new__» ⟨[.type "enumerate", .ref l], []⟩) (fun _ R s => s.heap.get? l = some { cls := .type "tuple", dict := dct, data := .seq items n, slots := sl } ∧
      R (.ok (.ret (.ref (s.heap.push { cls := .type "tuple_iterator", data := .fields #[.ref l, .int 0 0] }).objs.size)))
        { s with heap := (s.heap.push { cls := .type "tuple_iterator", data := .fields #[.ref l, .int 0 0] }).push { cls := .type "enumerate", data := .fields #[.none, .bool false, .ref s.heap.objs.size, rawInt 0, .none, .none] } }) :=
  .of_wp fun prog w A R s h => by
    obtain ⟨hp, g, d, tk, os⟩ := s; obtain ⟨hl, h⟩ := h
    have hsub := sub_enumerate
    have hL : Heap.IsTuple (Shared.heap ⟨hp, g, d, tk, os⟩) l items := ⟨_, hl, rfl, n, rfl⟩
    wp_walk using wpAny_loadPart' hl
    refine wpAny_stack_any fun st => wpAny_pure ?_
    split
    · rename_i c _ _ _ _ _
      cases (c == Value.type "enumerate")
      · wp_walk using wpAny_loadPart' hl, wpAny_pyIter_tuple hL
        exact ⟨_, rfl, h⟩
      · wp_walk using wpAny_loadPart' hl, wpAny_pyIter_tuple hL
        exact ⟨_, rfl, h⟩
    · wp_walk using wpAny_loadPart' hl, wpAny_pyIter_tuple hL
      exact ⟨_, rfl, h⟩
section
variable {prog : Program} {w : World} {A : Around} {E : Value → Shared → Prop} {s : Shared}
theorem l2_call_enumT {l : Addr} {items : Array Value} {Q : Value → Shared → Prop} (hL : s.heap.IsTuple l items)
    (h : ∀ h', IsEnum h' (s.heap.objs.size + 1) s.heap.objs.size 0 .none → h'.IsTupleIter s.heap.objs.size l 0 → h'.objs.size = s.heap.objs.size + 2 →
      (∀ b o, s.heap.get? b = some o → h'.get? b = some o) → Q (.ref (s.heap.objs.size + 1)) { s with heap := h' }) :
    wpAny (model prog w) A (call (.type "enumerate") [.ref l]) Q E s := by
  obtain ⟨⟨c, dct, dt, sl⟩, hl, hc, n, hd⟩ := hL
  replace hc : c = .type "tuple" := hc
  replace hd : dt = .seq items n := hd
  subst hc hd
  refine callType_new F.called_enumerate (by decide) (F.typeCall_enumerate_1 _) (F.newCall_enumerate_1 _) (fun obj => F.args_object_init_2 obj _) F.entry_enumerate_new
    (l2_meets_enumT l items n dct sl) ⟨hl, ?_⟩
  have hz : (s.heap.push { cls := .type "tuple_iterator", data := .fields #[.ref l, .int 0 0] }).objs.size = s.heap.objs.size + 1 := Heap.size_push ..
  show _ ∧ _
  rw [hz]
  have he : IsEnum ((s.heap.push { cls := .type "tuple_iterator", data := .fields #[.ref l, .int 0 0] }).push
      { cls := .type "enumerate", data := .fields #[.none, .bool false, .ref s.heap.objs.size, rawInt 0, .none, .none] }) (s.heap.objs.size + 1) s.heap.objs.size 0 .none := by
    have := Heap.get?_push_size (s.heap.push { cls := .type "tuple_iterator", data := .fields #[.ref l, .int 0 0] })
      (o := { cls := .type "enumerate", data := .fields #[.none, .bool false, .ref s.heap.objs.size, rawInt 0, .none, .none] }) rfl
    rw [hz] at this; exact this
  refine ⟨⟨_, he, rfl⟩, h _ he ⟨_, Heap.get?_push_of_some _ (Heap.get?_push_size _ rfl), rfl, rfl⟩ (by rw [Heap.size_push, hz]) fun b o x => Heap.get?_push_of_some _ (Heap.get?_push_of_some _ x)⟩
end
end PySem
namespace L2
open PySem PySem.Spec PyProof.Rows
section
variable {X : Cx} {pins : List (Addr × Obj)} {σ : St} {H : Hp} {s : Shared} {h' : Heap}
theorem Inv.turnLay {fp : List Addr} {a : Addr} {o : HO} {t' : Nat} (I : Inv X pins σ H s) (hf : ∀ b ∈ fp, FpOk X pins H b) (k : ∀ b u, b ∉ fp → s.heap.get? b = some u → h'.get? b = some u) (hp : s.heap.objs.size ≤ a) (new : ObjOk X.prog X.w (upd H a o) h' a o) :
    Inv X pins σ (upd H a o) { s with heap := h', toks := t' } := by
  have hn : H a = none := I.hok.fresh hp
  have nf : ∀ b u, H b = some u → b ∉ fp := fun b u e z => by rw [(hf b z).1] at e; cases e
  refine I.step (g' := s.gens) (d' := s.drawn) (ch := fp) (fun b hb => ?_) (fun b o _ _ hc e _ => k b o hc e) (fun b o _ _ hc e _ => ⟨o.slots, k b o hc e⟩) (fun b o _ e n => ?_) (fun b o hc e => ⟨o, k b o hc e⟩)
    (fun b xs e => ?_) (fun b o u e => ?_) (fun b ps e => ⟨#[], ?_⟩) (fun m hm => ?_) ?_ I.bare
  · obtain ⟨_, f1, _, f3, f4, f5⟩ := hf b hb
    exact ⟨f3, f1, f4, f5⟩
  · rw [upd_ne (fun z => by subst z; exact absurd (Heap.lt_size e) (Nat.not_lt.mpr hp))]; exact n
  · rw [upd_ne (ne_of_none e hn)]; exact e
  · rw [upd_ne (ne_of_none e hn)]; exact e
  · rw [upd_ne (ne_of_none e hn)]; simpa using e
  · obtain ⟨o, es, ep, ho, r⟩ := hm
    exact ⟨o, es, ep, k _ o (fun z => (hf _ z).2.1 rfl) ho, r⟩
  · intro b u e
    by_cases hb : b = a
    · subst hb; rw [upd_same] at e; cases e; exact new
    · rw [upd_ne hb] at e
      refine (I.hok b u e).stay (fun c v hc q => k c v ?_ q) (fun c q => by rw [upd_ne (ne_of_none q hn)]; exact q) fun c xs q => by rw [upd_ne (ne_of_none q hn)]; exact q
      rcases hc with z | z
      · rw [z]; exact nf b _ e
      · exact nf c _ z
theorem Inv.turnF {fp : List Addr} {t' : Nat} (I : Inv X pins σ H s) (hf : ∀ b ∈ fp, FpOk X pins H b) (k : ∀ b u, b ∉ fp → s.heap.get? b = some u → h'.get? b = some u) : Inv X pins σ H { s with heap := h', toks := t' } := by
  have nf : ∀ b u, H b = some u → b ∉ fp := fun b u e z => by rw [(hf b z).1] at e; cases e
  refine I.step (g' := s.gens) (d' := s.drawn) (ch := fp) (fun b hb => ?_) (fun b o _ _ hc e _ => k b o hc e) (fun b o _ _ hc e _ => ⟨o.slots, k b o hc e⟩) (fun _ _ _ _ n => n) (fun b o hc e => ⟨o, k b o hc e⟩)
    (fun _ _ e => e) (fun _ _ _ e => e) (fun b ps e => ⟨#[], by simpa using e⟩) (fun m hm => ?_) (fun b u e => ?_) I.bare
  · obtain ⟨_, f1, _, f3, f4, f5⟩ := hf b hb
    exact ⟨f3, f1, f4, f5⟩
  · obtain ⟨o, es, ep, ho, r⟩ := hm
    exact ⟨o, es, ep, k _ o (fun z => (hf _ z).2.1 rfl) ho, r⟩
  · refine (I.hok b u e).stay (fun c v hc q => k c v ?_ q) (fun _ q => q) fun _ _ q => q
    rcases hc with z | z
    · rw [z]; exact nf b _ e
    · exact nf c _ z
end
def Ite (Sq : Hp → List V → Prop) : It :=
  ⟨fun i H => ∃ xs x, Sq H xs ∧ xs[i]? = some x, fun i H v H' => ∃ p x, H p = none ∧ v = .ref p ∧ H' = upd H p (.tup [.int i, x]) ∧ ∀ xs, Sq H xs → xs[i]? = some x, fun i H => ∃ xs, Sq H xs ∧ xs.length = i⟩
def tnE (e it : Addr) (It : Heap → Nat → Prop) (i : Nat) (h : Heap) : Prop := (∃ old, IsEnum h e it i old) ∧ It h i
section
variable {P : Program} {w : World} {K : PySem.W.Frag} {elts : List Expr} {x1 : Nat} {tpos : Pos}
theorem turn_enum {e it a : Addr} {Sq : Hp → List V → Prop} {It : Heap → Nat → Prop} (hei : e ≠ it)
    (hobj : ∀ h i, It h i → ∃ o vs, h.get? it = some o ∧ o.data = .fields vs) (hkeep : ∀ h h' i, It h i → (∀ o, h.get? it = some o → h'.get? it = some o) → It h' i)
    (hinj : ∀ (X : Cx), X.K = K → ∀ pins σ H s, Inv X pins σ H s → ∀ xs ys, Sq H xs → Sq H ys → xs = ys)
    (draw : ∀ (X : Cx), X.prog = P → X.w = w → X.K = K → X.calm = true → ∀ pins σ H s, Inv X pins σ H s → ∀ xs, Sq H xs → (∃ o vs, s.heap.get? it = some o ∧ o.data = .fields vs) → (∃ o vs, s.heap.get? e = some o ∧ o.data = .fields vs) → ∃ (its : List Value) (fp : List Addr) (S : Nat → Heap → Prop), Vals xs its ∧ e ∉ fp ∧
      Draws P w X.A.in1 it fp its.length (fun i v => its[i]? = some v) S ∧ (∀ i, It s.heap i → S i s.heap) ∧ ∀ i h, S i h → It h i) :
    Turn P w K (.Tuple elts x1 tpos) (Ite Sq) [e, it] e (tnE e it It) where
  mem := by simp
  obj := fun i h st b hb => by
    obtain ⟨⟨old, h1⟩, h2⟩ := st
    rcases List.mem_cons.mp hb with rfl | hb
    · exact ⟨_, h1, fun v z => by cases z⟩
    · obtain ⟨o, vs, q1, q2⟩ := hobj _ _ h2
      rw [List.mem_singleton.mp hb]
      exact ⟨o, q1, fun v z => by rw [q2] at z; cases z⟩
  keep := fun i h h' st k => by
    obtain ⟨⟨old, h1⟩, h2⟩ := st
    exact ⟨⟨old, k e (by simp) _ h1⟩, hkeep _ _ _ h2 fun o q => k it (by simp) o q⟩
  item := by
    intro X hP hw hK hc i pins s σ H E I hf st hg
    obtain ⟨xs, x, hq, hx⟩ := hg
    obtain ⟨⟨old, he⟩, hit⟩ := st
    obtain ⟨its, fp, S, rv, hef, D, s1, s2⟩ := draw X hP hw hK hc pins σ H s I xs hq (hobj _ _ hit) ⟨_, _, he, rfl⟩
    subst hP hw hK
    obtain ⟨u, hu, ru⟩ := rv.get hx
    have hlt : i < its.length := (List.getElem?_eq_some_iff.mp hu).1
    refine wpAny_pyNext_enum_itemD D he (s1 _ hit) hlt hei hef fun v h1 tk hv ho st1 ht hsz hk => ⟨_, rfl, ?_⟩
    rw [hu] at hv; cases hv
    refine wpAny_letOwnedTupleGo_enum ho fun h2 he2 sb => ?_
    have ne : s.heap.objs.size ≠ e := Nat.ne_of_gt (Heap.lt_size he)
    have ht2 : h2.get? s.heap.objs.size = some { cls := .type "tuple", data := .seq #[.int i tk, u] } := (sb.2 _ ne).trans ht
    have I2 : Inv X pins σ (upd H s.heap.objs.size (.tup [.int i, x])) { s with heap := h2, toks := tk + 1 } := by
      refine I.turnLay hf (fun b o hb q => (sb.2 b fun z => hb (by simp [z])).trans (hk b o (fun z => hb (by simp [z])) (fun z => hb (by simp [z])) q)) (Nat.le_refl _) ⟨by show 2 ≤ sizeLine; rw [sizeLine_eq]; decide, [.int i tk, u], .cons ⟨tk, rfl⟩ (.cons ru .nil), ⟨_, ht2, rfl, _, rfl⟩⟩
    refine ⟨.ref s.heap.objs.size, _, I2, rfl, ⟨_, x, I.hok.fresh (Nat.le_refl _), rfl, rfl, fun ys hy => by rw [hinj X rfl _ _ _ _ I ys xs hy hq]; exact hx⟩, ⟨⟨_, by have := he2; push_cast; exact this⟩, ?_⟩, fun b hb => ?_⟩
    · exact hkeep _ _ _ (s2 _ _ st1) fun o q => (sb.2 it (Ne.symm hei)).trans q
    · have hb0 := (hf b hb).1
      rw [upd_ne (fun z => ?_)]
      · exact hb0
      · subst z
        rcases List.mem_cons.mp hb with q | q
        · exact ne q
        · obtain ⟨o, vs, q1, _⟩ := hobj _ _ hit
          rw [← List.mem_singleton.mp q] at q1
          exact absurd (Heap.lt_size q1) (Nat.lt_irrefl _)
  done := by
    intro X hP hw hK hc i pins s σ H E I hf st hg
    obtain ⟨xs, hq, hx⟩ := hg
    obtain ⟨⟨old, he⟩, hit⟩ := st
    obtain ⟨its, fp, S, rv, hef, D, s1, s2⟩ := draw X hP hw hK hc pins σ H s I xs hq (hobj _ _ hit) ⟨_, _, he, rfl⟩
    subst hP hw hK
    have hl := rv.length
    rw [hl] at hx
    subst hx
    exact wpAny_pyNext_enum_endD D he (s1 _ hit) fun h1 hx => ⟨rfl, I.turnF (t' := s.toks) hf fun b o hb q => hx b o (fun z => hb (by simp [z])) q⟩
  self := fun A i s Q E st h => by
    obtain ⟨⟨old, he⟩, _⟩ := st
    exact wpAny_pyIter_enum he h
theorem turn_enumL {e it a : Addr} (hei : e ≠ it) : Turn P w K (.Tuple elts x1 tpos) (Ite fun H xs => SqL K H a xs) [e, it] e (tnE e it fun h i => h.IsListIter it a i) := by
  refine turn_enum (a := a) hei (fun h i st => ?_) (fun h h' i st k => st.at k) (fun X hK pins σ H s I xs ys h1 h2 => ?_) fun X hP hw hK hc pins σ H s I xs hq hi he => ?_
  · obtain ⟨o, q, _, d⟩ := st
    exact ⟨o, _, q, d⟩
  · subst hK; exact I.list_inj h1 h2
  · subst hP hw hK
    obtain ⟨its, rv, p, hz⟩ := I.list hq
    have ne : ∀ b, (∃ o vs, s.heap.get? b = some o ∧ o.data = .fields vs) → a ≠ b := fun b ⟨o, vs, q, d⟩ z => by
      subst z
      obtain ⟨o', q', _, n, d'⟩ := p.isList
      rw [q] at q'; cases q'
      rw [d] at d'; cases d'
    refine ⟨its, [it, a], fun i h => h.IsListIter it a i ∧ h.IsList a its.toArray, rv, ?_, ?_, fun i st => ⟨st, p.isList⟩, fun i h st => st.1⟩
    · intro z
      rcases List.mem_cons.mp z with z | z
      · exact hei z
      · exact ne e he (List.mem_singleton.mp z).symm
    · have := Draws.list (prog := X.prog) (w := X.w) (A := X.A.in1) (I.ok.hd hc) it a (ne it hi) its.toArray
      simpa using this
theorem turn_enumT {e it a : Addr} (hei : e ≠ it) : Turn P w K (.Tuple elts x1 tpos) (Ite fun H xs => SqT K H a xs) [e, it] e (tnE e it fun h i => h.IsTupleIter it a i) := by
  refine turn_enum (a := a) hei (fun h i st => ?_) (fun h h' i st k => st.at k) (fun X hK pins σ H s I xs ys h1 h2 => ?_) fun X hP hw hK hc pins σ H s I xs hq hi he => ?_
  · obtain ⟨o, q, _, d⟩ := st
    exact ⟨o, _, q, d⟩
  · subst hK; exact I.tuple_inj h1 h2
  · subst hP hw hK
    obtain ⟨its, rv, p, hz⟩ := I.tuple hq
    have pt : s.heap.IsTuple a its.toArray := p
    have ne : ∀ b, (∃ o vs, s.heap.get? b = some o ∧ o.data = .fields vs) → a ≠ b := fun b ⟨o, vs, q, d⟩ z => by
      subst z
      obtain ⟨o', q', _, n, d'⟩ := pt
      rw [q] at q'; cases q'
      rw [d] at d'; cases d'
    refine ⟨its, [it, a], fun i h => h.IsTupleIter it a i ∧ h.IsTuple a its.toArray, rv, ?_, ?_, fun i st => ⟨st, pt⟩, fun i h st => st.1⟩
    · intro z
      rcases List.mem_cons.mp z with z | z
      · exact hei z
      · exact ne e he (List.mem_singleton.mp z).symm
    · have := l2_drawsT (prog := X.prog) (w := X.w) (A := X.A.in1) (I.ok.hd hc) it a (ne it hi) its.toArray
      simpa using this
end
section
variable {X : Cx} {elts : List Expr} {x1 : Nat} {tpos : Pos}
def iEnum (K : PySem.W.Frag) (ta : TA) : TI := fun σ H R => ta σ H fun vs H1 => ∃ a, vs = [.ref a] ∧ ((∃ xs, SqL K H1 a xs ∧ R (Ite fun H xs => SqL K H a xs) H1) ∨ (∃ xs, SqT K H1 a xs ∧ R (Ite fun H xs => SqT K H a xs) H1))
theorem pi_enum {a : Expr} {ta : TA} {p pos : Pos} (hg : Gl X "enumerate") (hm : X.mg "enumerate" = none) (ha : PA X [a] ta) (hs : starEach [a] X.env = [(false, eval a X.env)] := by rfl) : PI X (.Tuple elts x1 tpos) (.Call (.Name "enumerate" p) [a] [] pos) (iEnum X.K ta) := by
  intro pins s σ H R I h
  refine Call_ (ld_blt I hg hm boot_enumerate (PyProof.Rows.callWith_type1 (thn (ha pos pins s σ H _ I h) fun us s1 ⟨vs, H1, I1, r1, q1⟩ => ?_) hs rfl))
  obtain ⟨l, e, q⟩ := q1
  subst e
  cases r1 with
  | cons r rr =>
    cases rr
    cases (show _ = Value.ref l from r)
    have fp : ∀ b ∈ [s1.heap.objs.size + 1, s1.heap.objs.size], FpOk X pins H1 b := fun b hb => by
      rcases List.mem_cons.mp hb with rfl | hb
      · exact I1.fpOk (Nat.le_succ _) (I1.hok.fresh (Nat.le_succ _))
      · rw [List.mem_singleton.mp hb]; exact I1.fpOk (Nat.le_refl _) (I1.hok.fresh (Nat.le_refl _))
    rcases q with ⟨xs, hq, q⟩ | ⟨xs, hq, q⟩
    · obtain ⟨its, rv, p, hz⟩ := I1.list hq
      refine call_enumerate_list p.isList fun h' he hit hsz hk => ?_
      refine wpAny_pyIter_enum he ?_
      exact ⟨_, _, _, _, H1, rfl, I1.kept (t' := s1.toks) hk, turn_enumL (a := l) (Nat.succ_ne_self _), ⟨⟨_, he⟩, hit⟩, fp, q⟩
    · obtain ⟨its, rv, p, hz⟩ := I1.tuple hq
      refine l2_call_enumT (show s1.heap.IsTuple l its.toArray from p) fun h' he hit hsz hk => ?_
      refine wpAny_pyIter_enum he ?_
      exact ⟨_, _, _, _, H1, rfl, I1.kept (t' := s1.toks) hk, turn_enumT (a := l) (Nat.succ_ne_self _), ⟨⟨_, he⟩, hit⟩, fp, q⟩
end
end L2

end

section
set_option Elab.async false
set_option linter.all false
set_option maxRecDepth 100000
set_option maxHeartbeats 4000000
namespace PySem
open PySem.Calls PyProof.Rows
abbrev walker (x : Value) (f : Bool) (d : Addr) (i n ep : Nat) (p q : Value) : Obj :=
  { cls := .type "dict_itemiterator", dict := none, data := .fields #[x, .bool f, .ref d, .int i 0, .int n 0, .int ep 0, p, q], slots := #[] }
abbrev duo (e : DictEntry) : Obj := { cls := .type "tuple", data := .seq #[e.key, e.val] }
def Stand (h : Heap) (it d : Addr) (i n ep : Nat) : Prop :=
  ∃ x f p q, h.get? it = some (walker x f d i n ep p q) ∧ (x = .none ∨ ∃ a o, x = rawInt (a : Nat) ∧ h.get? a = some o)
def Raw (h : Heap) (d : Addr) (es : Array DictEntry) (ep : Nat) : Prop := ∃ o, h.get? d = some o ∧ o.data = .dict es ep
theorem Raw.to {h h' : Heap} {d : Addr} {es : Array DictEntry} {ep : Nat} (r : Raw h d es ep) (k : ∀ o, h.get? d = some o → h'.get? d = some o) : Raw h' d es ep := let ⟨o, e, x⟩ := r; ⟨o, k o e, x⟩
section
variable {prog : Program} {w : World} {A : Around} {E : Value → Shared → Prop} {s : Shared} {it d v : Addr} {es : Array DictEntry} {i n ep : Nat}
theorem items_made (d : Addr) (hd : (d == sysModules) = false) : MeetsIn prog w (Builtin.«dict.items» ⟨[.ref d], []⟩) fun _ R s => s.TypeIs (.ref d) "dict" ∧
    R (.ok (.ret (.ref s.heap.objs.size))) { s with heap := s.heap.push { cls := .type "dict_items", data := .fields #[.ref d] } } :=
  .of_wp fun A R s ⟨ty, h⟩ => by
    have q : Builtin.Dict.showsAll d = pure () := by unfold Builtin.Dict.showsAll; rw [hd]; rfl
    show wpAny _ _ (Builtin.Dict.noArgs _ _ >>= fun _ => _) _ _ s
    unfold Builtin.Dict.noArgs
    refine wpAny_bind (wpAny_bind (wpAny_notOrdered_dict ty (wpAny_pure (?_ : wpAny _ _ (Builtin.Dict.showsAll d >>= _) _ _ s))))
    rw [q]
    exact wpAny_bind (wpAny_pure (wpAny_bind (wpAny_newObj_type (wpAny_pure ⟨_, rfl, h⟩))))
theorem items_iter {Q : Value → Shared → Prop} (hv : s.heap.IsItemsView v d) (r : Raw s.heap d es ep)
    (h : Q (.ref s.heap.objs.size) { s with heap := s.heap.push (walker .none false d 0 es.size ep .none .none) }) : wpAny (model prog w) A (pyIter (.ref v)) Q E s := by
  obtain ⟨ov, v1, v2, v3⟩ := id hv
  obtain ⟨o, r1, r2⟩ := r
  refine wpAny_pyIter_slot hv.typeIs F.slot_dict_items_iter (wpAny_call_entry F.slot_dict_items_iter hv.typeIs F.entry_dict_items_iter (wpAny_bind (wpAny_pure (wpAny_bind (?_ : wpAny _ _ (field (.ref v) 0 >>= _) _ _ s)))) (F.args_dict_items_iter_1 _))
  refine wpAny_bind (wpAny_field v1 v3 (x := .ref d) rfl (wpAny_pure (wpAny_bind (?_ : wpAny _ _ (Builtin.Dict_items.newIterator _ d) _ _ s))))
  refine wpAny_bind (wpAny_dictEntries r1 r2 (wpAny_bind (wpAny_dictEpoch r1 r2 ?_)))
  rw [show Builtin.Dict_items.ownsTuple "dict_itemiterator" = true from by decide]
  refine wpAny_newObj_type (wpAny_pure ⟨_, rfl, _, _, ⟨_, Heap.get?_push_size _ rfl, rfl⟩, F.slot_dict_itemiterator_next.lookup, ?_⟩) (by simp [sizeOk, Builtin.Dict_items.ownedTupleFields, sizeLine_eq])
  exact h
theorem pair_out {e : DictEntry} {Q : Value → Shared → Prop} (st : Stand s.heap it d i n ep)
    (h : ∀ h', Stand h' it d i n ep → h'.get? s.heap.objs.size = some (duo e) → (∀ b o, b ≠ it → s.heap.get? b = some o → h'.get? b = some o) → Q (.ref s.heap.objs.size) { s with heap := h' }) :
    wpAny (model prog w) A (Builtin.Dict_items.pairFromOwner (.ref it) 6 e.key e.val) Q E s := by
  obtain ⟨H, g, dr, tk, os⟩ := s
  obtain ⟨x, f, p, q, w0, hx⟩ := st
  have lt : it < H.objs.size := Heap.lt_size w0
  have new : (H.push (duo e)).get? H.objs.size = some (duo e) := Heap.get?_push_size _ rfl
  have old : ∀ b o, H.get? b = some o → (H.push (duo e)).get? b = some o := fun b o => Heap.get?_push_of_some _
  refine wpAny_bind (wpAny_newTuple ?_)
  show wpAny _ _ (Builtin.Dict_items.ownedTupleIsFree (.ref it) >>= _) _ _ ⟨H.push (duo e), g, dr, tk, os⟩
  generalize H.push (duo e) = G at new old ⊢
  have w1 := old it _ w0
  have fin : ∀ h' x' f' p' q', h'.get? it = some (walker x' f' d i n ep p' q') → (x' = .none ∨ ∃ a o, x' = rawInt (a : Nat) ∧ G.get? a = some o) → Heap.SameBut it G h' → Q (.ref H.objs.size) ⟨h', g, dr, tk, os⟩ := by
    intro h' x' f' p' q' k1 k2 k3
    refine h h' ⟨x', f', p', q', k1, k2.imp id ?_⟩ (k3.extBut _ _ (Nat.ne_of_gt lt) new) fun b o nb e => k3.extBut b o nb (old b o e)
    rintro ⟨a, o, ea, eo⟩
    by_cases c : a = it
    · exact ⟨a, _, ea, c ▸ k1⟩
    · exact ⟨a, o, ea, k3.extBut a o c eo⟩
  unfold Builtin.Dict_items.ownedTupleIsFree
  refine wpAny_bind (wpAny_bind (wpAny_field w1 rfl (x := x) rfl ?_))
  rcases hx with rfl | ⟨a, o, rfl, ea⟩
  · refine wpAny_pure (wpAny_bind (wpAny_field w1 rfl (x := p) rfl (wpAny_bind (wpAny_field w1 rfl (x := q) rfl (wpAny_bind (wpAny_setField_rec w1 (by simp) fun h1 w2 k2 => ?_))))))
    refine wpAny_bind (wpAny_setField_rec w2 (by simp) fun h2 w3 k3 => wpAny_bind (wpAny_setField_rec w3 (by simp) fun h3 w4 k4 => wpAny_bind (wpAny_setField_rec w4 (by simp) fun h4 w5 k5 => ?_)))
    exact wpAny_bind (wpAny_letGo (wpAny_pure (fin h4 _ _ _ _ w5 (.inr ⟨_, _, rfl, new⟩) (((k2.trans k3).trans k4).trans k5))))
  · have al : (loadIfAlive ((a : Int).toNat) : Sem (Option Obj)) = loadIfAlive a := by rw [Int.toNat_natCast]
    show wpAny _ _ (loadIfAlive ((a : Int).toNat) >>= _) _ _ _
    rw [al]
    refine wpAny_bind (W.kdx_alive (old a o ea) ?_)
    show wpAny _ _ (field (.ref it) 1 >>= _) _ _ _
    refine wpAny_bind (wpAny_field w1 rfl (x := .bool f) rfl ?_)
    cases f
    · exact wpAny_bind (wpAny_setField_rec w1 (by simp) fun h1 w2 k2 => wpAny_pure (wpAny_pure (fin h1 _ _ _ _ w2 (.inr ⟨a, o, rfl, old a o ea⟩) k2)))
    · exact wpAny_pure (wpAny_pure (fin G _ _ _ _ w1 (.inr ⟨a, o, rfl, old a o ea⟩) (Heap.SameBut.refl _ _)))
theorem items_next {Q : Option Value → Shared → Prop} (hh : A.handled = none) (st : Stand s.heap it d i es.size ep) (r : Raw s.heap d es ep) (ne : d ≠ it)
    (h1 : ∀ e, es[i]? = some e → ∀ h', Stand h' it d (i + 1) es.size ep → h'.get? s.heap.objs.size = some (duo e) → (∀ b o, b ≠ it → s.heap.get? b = some o → h'.get? b = some o) → Q (some (.ref s.heap.objs.size)) { s with heap := h' })
    (h2 : es[i]? = none → ∀ h', Heap.ExtBut it s.heap h' → Q none { s with heap := h' }) : wpAny (model prog w) A (pyNext (.ref it)) Q E s := by
  obtain ⟨H, g, dr, tk, os⟩ := s
  obtain ⟨x, f, p, q, w0, hx⟩ := st
  obtain ⟨od, r1, r2⟩ := r
  have ty : Shared.TypeIs ⟨H, g, dr, tk, os⟩ (.ref it) "dict_itemiterator" := ⟨_, w0, rfl⟩
  have own : Builtin.Dict_items.ownsTuple "dict_itemiterator" = true := by decide
  unfold pyNext
  refine wpAny_bind (wpAny_attempt (wpAny_callSpecial?_slot ty F.slot_dict_itemiterator_next (wpAny_call_entry F.slot_dict_itemiterator_next ty F.entry_dict_itemiterator_next (wpAny_bind (wpAny_pure (wpAny_bind (wpAny_bind ?_)))) (F.args_dict_itemiterator_next_1 _))))
  refine wpAny_bind (wpAny_typeNameOfWhole_itemiter ty (wpAny_pure (wpAny_bind (wpAny_fieldsOf w0 rfl ?_))))
  rw [own]
  refine wpAny_bind (wpAny_pure (wpAny_bind (wpAny_dictEntries r1 r2 ?_)))
  rw [if_neg (by simp)]
  refine wpAny_bind (wpAny_pure (wpAny_bind (wpAny_dictEpoch r1 r2 ?_)))
  rw [if_neg (by simp)]
  refine wpAny_pure ?_
  have pl : (if (i : Int) < 0 then none else es[(i : Int).toNat]?) = es[i]? := by rw [if_neg (by omega), Int.toNat_natCast]
  simp only [pl]
  cases c : es[i]? with
  | some e =>
    refine wpAny_bind (wpAny_bind (wpAny_typeNameOfWhole_itemiter ty (wpAny_pure (wpAny_bind (wpAny_isOneOf_itemiter ty ?_)))))
    refine wpAny_bind (wpAny_setField_rec w0 (k := 3) (x := rawInt ((i : Int) + 1)) (by simp) fun h' w1 k1 => wpAny_bind (wpAny_holding ?_))
    have st1 : Stand h' it d (i + 1) es.size ep := by
      refine ⟨x, f, p, q, w1, hx.imp id fun ⟨a, o, ea, eo⟩ => ?_⟩
      by_cases c : a = it
      · exact ⟨a, _, ea, c ▸ w1⟩
      · exact ⟨a, o, ea, k1.extBut a o c eo⟩
    have ty1 : Shared.TypeIs ⟨h', g, dr, tk, os⟩ (.ref it) "dict_itemiterator" := ⟨_, w1, rfl⟩
    refine wpAny_bind (wpAny_isOneOf_itemiter ty1 (wpAny_bind (wpAny_isOneOf_itemiter ty1 (pair_out (e := e) st1 fun h'' st2 t2 k2 => ?_))))
    have sz : h'.objs.size = H.objs.size := k1.1
    refine wpAny_pure ⟨_, rfl, wpAny_pure ?_⟩
    rw [sz] at t2 ⊢
    exact h1 e c h'' st2 t2 fun b o nb eb => k2 b o nb (k1.extBut b o nb eb)
  | none =>
    refine wpAny_bind (wpAny_bind (wpAny_typeNameOfWhole_itemiter ty (wpAny_pure (wpAny_bind (wpAny_setField w0 (i := 2) (x := .none) rfl (by simp) (wpAny_bind ?_))))))
    simp only [newExc, newTuple]
    refine wpAny_bind (wpAny_newObj_type (wpAny_bind (m := firstArgMember _ _) (wpAny_of_eq (a := Value.none) (by simp only [firstArgMember]; rfl) (wpAny_newObj_type ?_ (by size_fits)))) (by size_fits))
    simp only [raiseNew]
    refine wpAny_bind (wpAny_handled ?_)
    rw [show A.in1.handled = none from hh]
    refine wpAny_bind (wpAny_pure (wpAny_throw ?_))
    refine wpAny_bind (wpAny_isInstance (b := true) (T := "StopIteration") ⟨_, Heap.get?_push_size _ rfl, rfl⟩ isSubtype_stop ?_)
    exact wpAny_pure (h2 c _ (((Heap.SameBut.update ..).extBut.push _).push _))
end
structure Handed (es : Array DictEntry) (lo : Addr) (h : Heap) (as : List Addr) : Prop where
  rise : as.Pairwise (· < ·)
  above : ∀ a ∈ as, lo < a
  duos : ∀ (j : Nat) (a : Addr), as[j]? = some a → ∃ e, es[j]? = some e ∧ h.get? a = some (duo e)
theorem Handed.to {es : Array DictEntry} {lo lo' : Addr} {h h' : Heap} {as : List Addr} (g : Handed es lo h as) (l : lo' ≤ lo) (k : ∀ a o, lo < a → h.get? a = some o → h'.get? a = some o) : Handed es lo' h' as :=
  ⟨g.rise, fun a ha => Nat.lt_of_le_of_lt l (g.above a ha), fun j a ha => let ⟨e, x, y⟩ := g.duos j a ha; ⟨e, x, k a _ (g.above a (List.mem_of_getElem? ha)) y⟩⟩
theorem Handed.more {es : Array DictEntry} {lo a : Addr} {h : Heap} {as : List Addr} {e : DictEntry} (g : Handed es lo h as) (up : ∀ b ∈ as, b < a) (hl : lo < a) (he : es[as.length]? = some e) (ha : h.get? a = some (duo e)) : Handed es lo h (as ++ [a]) := by
  refine ⟨List.pairwise_append.mpr ⟨g.rise, List.pairwise_singleton _ _, fun b hb c hc => by rw [List.mem_singleton.mp hc]; exact up b hb⟩, fun b hb => ?_, fun j b hj => ?_⟩
  · exact (List.mem_append.mp hb).elim (g.above b) fun q => List.mem_singleton.mp q ▸ hl
  · rw [List.getElem?_append] at hj
    split at hj
    · exact g.duos j b hj
    · have z : j - as.length = 0 := by
        have := (List.getElem?_eq_some_iff.mp hj).1
        simp at this; omega
      rw [z] at hj
      cases hj
      exact ⟨e, by rw [show j = as.length by omega]; exact he, ha⟩
abbrev rowOf (acc : Array Value) (c : Nat) : Obj := { cls := .type "list", dict := none, data := .seq acc c, slots := #[] }
section
variable {prog : Program} {w : World} {A : Around} {E : Value → Shared → Prop} {s : Shared} {S I d v : Addr} {es : Array DictEntry} {ep : Nat} {R : Result → Shared → Prop} {res : Value}
theorem items_loop (hh : A.handled = none) (hI : S < I) (dS : d ≠ S) (dI : d ≠ I) (hn : es.size ≤ sizeLine) :
    ∀ (m i : Nat) (h : Heap) (tk c : Nat) (acc : Array Value) (as : List Addr), i + m = es.size → Stand h I d i es.size ep → Raw h d es ep → h.get? S = some (rowOf acc c) → acc.toList = as.map Value.ref → as.length = i → Handed es I h as → I < h.objs.size →
      (∀ h' tk acc c as, (∀ b o, b ≠ S → b ≠ I → h.get? b = some o → h'.get? b = some o) → h'.get? S = some (rowOf acc c) → as.length = es.size → Handed es I h' as → acc.toList = as.map Value.ref → R (.ok (.ret res)) { s with heap := h', toks := tk }) →
      codeAny (model prog w) A (.builtin "list.extend.loop" ⟨[.ref S, .ref I, res], []⟩) R { s with heap := h, toks := tk }
  | m, i, h, tk, c, acc, as, em, st, r, hS, ea, el, hG, lI, fin => by
    have nS : S ≠ I := Nat.ne_of_lt hI
    refine codeAny_builtin PySem.F.entry_extend_loop ?_
    rw [Around.under_plainId PySem.F.plain_extend_loop _]
    refine wpAny_bind (items_next (A := A.in1) (s := { s with heap := h, toks := tk }) hh st r dI (fun e he h1 st1 t1 k1 => ?_) fun he h1 k1 => ?_)
    · have mi : i < es.size := (Array.getElem?_eq_some_iff.mp he).1
      have za : acc.size = i := by rw [← Array.length_toList, ea, List.length_map, el]
      have lS : S < h.objs.size := Heap.lt_size hS
      have hS1 := k1 S _ nS hS
      have sv : ∀ b o, b ≠ S → h1.get? b = some o → (h1.update S (Obj.mapSeq (·.push (Value.ref h.objs.size)))).get? b = some o := fun b o nb e => (Heap.get?_update_other _ _ (Ne.symm nb)).trans e
      have hS2 := Heap.get?_update_self (Obj.mapSeq (·.push (Value.ref h.objs.size))) hS1 rfl
      have tp := sv _ _ (Nat.ne_of_gt lS) t1
      refine wpAny_bind (wpAny_updateSeq (f := (·.push (Value.ref h.objs.size))) hS1 rfl (wpAny_pure ⟨plainId_quiet PySem.F.plain_extend_loop _, ?_⟩) (by rw [za]; omega) (by show (acc.push _).size ≤ _; rw [Array.size_push, za]; omega))
      refine items_loop hh hI dS dI hn (m - 1) (i + 1) _ tk _ (acc.push (Value.ref h.objs.size)) (as ++ [h.objs.size]) (by omega) ?_ (r.to fun o e => sv d o dS (k1 d o dI e)) hS2 (by rw [Array.toList_push, ea, List.map_append]; rfl) (by rw [List.length_append, el]; rfl)
        ((hG.to (Nat.le_refl _) fun a o la e => sv a o (Nat.ne_of_gt (Nat.lt_trans hI la)) (k1 a o (Nat.ne_of_gt la) e)).more (fun b hb => ?_) lI (by rw [el]; exact he) tp) (Nat.lt_trans lI (Heap.lt_size tp))
        fun h' tk' acc' c' as' k => fin h' tk' acc' c' as' fun b o b1 b2 e => k b o b1 b2 (sv b o b1 (k1 b o b2 e))
      · obtain ⟨x, f, p, q, w1, hx⟩ := st1
        refine ⟨x, f, p, q, sv _ _ (Ne.symm nS) w1, hx.imp id fun ⟨a, o, e1, e2⟩ => ?_⟩
        by_cases q : a = S
        · subst q; exact ⟨a, _, e1, hS2⟩
        · exact ⟨a, o, e1, sv a o q e2⟩
      · obtain ⟨j, hj⟩ := List.mem_iff_getElem?.mp hb
        obtain ⟨_, _, y⟩ := hG.duos j b hj
        exact Heap.lt_size y
    · have mi : es.size ≤ i := Array.getElem?_eq_none_iff.mp he
      exact wpAny_pure (fin h1 tk acc c as (fun b o _ b2 e => k1 b o b2 e) (k1 S _ nS hS) (by omega) (hG.to (Nat.le_refl _) fun a o la e => k1 a o (Nat.ne_of_gt la) e) ea)
  termination_by m => m
theorem items_all {Q : List Value → Shared → Prop} (hh : A.handled = none) (hv : s.heap.IsItemsView v d) (r : Raw s.heap d es ep) (hn : es.size ≤ sizeLine)
    (hQ : ∀ (h' : Heap) (tk : Nat) (as : List Addr), (∀ b o, s.heap.get? b = some o → h'.get? b = some o) → as.length = es.size → Handed es s.heap.objs.size h' as → Q (as.map Value.ref) { s with heap := h', toks := tk }) :
    wpAny (model prog w) A (collect (.ref v)) Q E s := by
  obtain ⟨H, g, dr, tk, os⟩ := s
  have lv : v < H.objs.size := let ⟨_, ho, _⟩ := hv; Heap.lt_size ho
  have ld : d < H.objs.size := let ⟨_, ho, _⟩ := r; Heap.lt_size ho
  refine wpAny_bind (wpAny_runValue (codeAny_builtin entry_proto_collect' ?_))
  rw [Around.under_plainId PySem.F.plain_proto_collect _]
  refine wpAny_bind (m := newList []) (wpAny_newObj_type (wpAny_pure ⟨plainId_quiet PySem.F.plain_list_iadd _, codeAny_builtin entry_list_iadd' ?_⟩))
  rw [Around.under_plainId PySem.F.plain_list_iadd _]
  have p0 : ∀ b o, H.get? b = some o → (H.push (rowOf #[] 0)).get? b = some o := fun b o e => Heap.get?_push_of_some _ e
  have r0 := (Heap.get?_push_size H (o := rowOf #[] 0) rfl)
  have z0 : (H.push (rowOf #[] 0)).objs.size = H.objs.size + 1 := Heap.size_push ..
  show wpAny _ A.in1 (Builtin.List.listExtendWith (.ref H.objs.size) (.ref v) (.ref H.objs.size)) _ _ ⟨H.push (rowOf #[] 0), g, dr, tk, os⟩
  generalize H.push (rowOf #[] 0) = G at p0 r0 z0 ⊢
  have lG : H.objs.size < G.objs.size := by rw [z0]; exact Nat.lt_succ_self _
  have hv1 : G.IsItemsView v d := let ⟨o, a, b⟩ := hv; ⟨o, p0 _ _ a, b⟩
  refine wpAny_bind (wpAny_typeOf (T := "dict_items") (hv1.typeIs (s := ⟨G, g, dr, tk, os⟩)) ?_)
  rw [show Builtin.List.listSameRef (.ref H.objs.size) (.ref v) = false from by simp [Builtin.List.listSameRef, Nat.ne_of_gt lv]]
  refine wpAny_bind (items_iter (s := ⟨G, g, dr, tk, os⟩) hv1 (r.to fun o e => p0 d o e) (wpAny_bind (wpAny_holding (W.kdx_hint (r := v) (let ⟨o, a, b, _⟩ := hv1; ⟨o, Heap.get?_push_of_some _ a, b⟩) ?_))))
  have p1 : ∀ b o, G.get? b = some o → (G.push (walker .none false d 0 es.size ep .none .none)).get? b = some o := fun b o e => Heap.get?_push_of_some _ e
  have r1 := Heap.get?_push_size G (o := walker .none false d 0 es.size ep .none .none) rfl
  show wpAny _ _ _ _ _ ⟨G.push (walker .none false d 0 es.size ep .none .none), g, dr, tk, os⟩
  generalize G.push (walker .none false d 0 es.size ep .none .none) = F at p1 r1 ⊢
  have go : ∀ h c, (∀ b o, b ≠ H.objs.size → F.get? b = some o → h.get? b = some o) → h.get? H.objs.size = some (rowOf #[] c) →
      codeAny (model prog w) A (.builtin "list.extend.loop" ⟨[.ref H.objs.size, .ref G.objs.size, .ref H.objs.size], []⟩) (fun r s' => match r with | .ok (.ret v) => wpAny (model prog w) A (match v with | .ref a => load a >>= fun o => (match o.data with | .seq xs _ => pure xs.toList | _ => unsupported "internal:collect") | _ => unsupported "internal:collect") Q E s' | .ok _ => False | .error e => E e s') ⟨h, g, dr, tk, os⟩ := fun h c k hS =>
    items_loop (s := ⟨H, g, dr, tk, os⟩) (S := H.objs.size) (I := G.objs.size) hh lG (Nat.ne_of_lt ld) (Nat.ne_of_lt (Nat.lt_trans ld lG)) hn es.size 0 h tk c #[] [] (Nat.zero_add _) ⟨_, _, _, _, k _ _ (Nat.ne_of_gt lG) r1, .inl rfl⟩ (r.to fun o e => k _ _ (Nat.ne_of_lt ld) (p1 _ _ (p0 _ _ e))) hS rfl rfl
      ⟨.nil, (fun _ q => nomatch q), fun j a q => by simp at q⟩ (Heap.lt_size (k _ _ (Nat.ne_of_gt lG) r1)) fun h' tk' acc c as k' hS' el hG ea => wpAny_bind (wpAny_load hS' (wpAny_pure (by
        rw [ea]
        exact hQ h' tk' as (fun b o e => k' b o (Nat.ne_of_lt (Heap.lt_size e)) (Nat.ne_of_lt (Nat.lt_trans (Heap.lt_size e) lG)) (k b o (Nat.ne_of_lt (Heap.lt_size e)) (p1 b o (p0 b o e)))) el (hG.to (Nat.le_of_lt lG) fun _ _ _ e => e))))
  have q0 := p1 _ _ r0
  have q1 := Heap.get?_update_self (Obj.mapSeq (·.push Value.none)) q0 rfl
  refine wpAny_ite_split (fun _ => wpAny_bind (wpAny_rule (wpAny_bind (wpAny_bind (wpAny_updateSeq (f := (·.push Value.none)) q0 rfl (wpAny_updateSeq (hz := by seq_fits) q1 rfl (wpAny_pure ⟨plainId_quiet PySem.F.plain_extend_loop _, go _ _ (fun b o nb e => ?_) (Heap.get?_update_self (Obj.mapSeq (·.pop)) q1 rfl)⟩))))))) fun _ => wpAny_pure ⟨plainId_quiet PySem.F.plain_extend_loop _, go _ _ (fun _ _ _ e => e) q0⟩
  rw [Heap.get?_update_other _ _ (Ne.symm nb), Heap.get?_update_other _ _ (Ne.symm nb)]
  exact e
end
end PySem

end

section
set_option Elab.async false
set_option linter.all false
set_option maxRecDepth 100000
set_option maxHeartbeats 4000000
namespace PySem.W
open PySem PySem.Calls PyProof.Rows PyProof.V PySem.Spec
section
variable {prog : Program} {w : World} {A : Around} {E : Value → Shared → Prop} {s : Shared} {h₀ : Heap} {L : Addr} {m : Str → Option Value} {news : List (Addr × Obj)} {vs : List Value}
theorem l2_tail {Q : Value → Shared → Prop} (F : Fr h₀ L s.heap m) (N : News h₀ L s.heap news) (h2 : 2 ≤ vs.length) (h64 : vs.length < 64)
    (h : ∀ D e1 h', Fr h₀ L h' m → News h₀ L h' ((D, seqObj "list" #[] e1) :: news) → (∀ q ∈ news, q.1 < D) →
      wpAny (model prog w) A.in1 (keyKind' vs.toArray) (fun κ s' => (kas_sort vs.length).kasWp (kas_ask prog w A.in1 κ vs) (fun p s'' => KasFin h₀ L m D e1 (p.toList.map fun i => vs.getD i Value.none) (fun s3 => Q (.ref D) s3) s'') s') (fun _ _ => False) { s with heap := h' }) :
    wpAny (model prog w) A (do let l ← newList vs; let _ ← holding [l] (call (.builtin "list.sort") [l]); ret l) (fun fin s' => ∃ v, fin = .done (.ret v) ∧ Q v s') E s := by
  refine wpAny_bind (wpAny_newList ?_ (by rw [sizeLine_eq]; omega))
  have hoL : (s.heap.push (seqObj "list" vs.toArray 0)).get? s.heap.objs.size = some (seqObj "list" vs.toArray 0) := Heap.get?_push_size _ rfl
  have keep : ∀ b o, s.heap.get? b = some o → (s.heap.push (seqObj "list" vs.toArray 0)).get? b = some o := fun b o q => Heap.get?_push_of_some _ q
  have hL : L < s.heap.objs.size := F.ns.lt
  show wpAny _ _ _ _ _ { s with heap := s.heap.push (seqObj "list" vs.toArray 0) }
  refine wpAny_bind (wpAny_holding (wpAny_call_entry slot_list_sort ⟨_, hoL, rfl⟩ entry_list_sort ?body (args_list_sort _)))
  case body =>
    refine kat_list_sort (s := { s with heap := s.heap.push (seqObj "list" vs.toArray 0) }) (F.kept keep) (N.grown keep) hoL (Nat.ne_of_gt hL) (Heap.get?_none_of_le (Nat.le_trans F.above (Nat.le_of_lt hL)))
      (fun p hp => Nat.ne_of_lt (Heap.lt_size (N p hp).1)) h2 h64 fun e1 h' F' N' => ?_
    refine wpAny_mono (h _ e1 h' F' N' fun q hq => Heap.lt_size (N q hq).1) (fun κ s' hk => ?_) fun _ _ x => x
    rw [kat_ask_eq rfl] at hk ⊢
    exact kas_wp_mono hk fun p s'' hk' => hk'.mono fun s3 hq => ⟨_, rfl, wpAny_pure ⟨_, rfl, hq⟩⟩
end
end PySem.W
namespace L2
open PySem PySem.Spec PyProof.Rows
section
variable {X : Cx} {pins : List (Addr × Obj)} {σ : St} {H : Hp} {s : Shared} {E : Value → Shared → Prop}
def sortRest (its : List Value) : Sem PySem.Fin := do let l ← newList its; let _ ← holding [l] (call (.builtin "list.sort") [l]); ret l
def rSortV (K : PySem.W.Frag) (vs : List V) (H : Hp) (Q : VK) : Prop :=
  (∃ rows : List (List PyData), RepAll K H (rows.map .tuple) vs ∧ 2 ≤ rows.length ∧ rows.length < 64 ∧ (∀ r ∈ rows, r.all SeqAt.shaped = true ∧ onlyTs r = true) ∧ (headI rows = true ∨ headT rows = true) ∧ (∀ i j, i < rows.length → j < rows.length → (ltRow (rows.getD i []) (rows.getD j [])).isSome = true) ∧
    ∀ l, H l = none → Q (.ref l) (upd H l (.lst ((sortIx (ltIx rows) rows.length).map fun i => vs.getD i .non)))) ∨ (vs.length < 2 ∧ ∀ l, H l = none → Q (.ref l) (upd H l (.lst vs)))
theorem tail_D {A : Around} {rows : List (List PyData)} {vs : List V} {its : List Value} {Q : VK} (hu : A.in1.units + 64 < cLine) (I : Inv X pins σ H s) (rv : Vals vs its) (hrep : RepAll X.K H (rows.map .tuple) vs) (h2 : 2 ≤ rows.length) (h64 : rows.length < 64)
    (hsh : ∀ r ∈ rows, r.all SeqAt.shaped = true ∧ onlyTs r = true) (hknd : headI rows = true ∨ headT rows = true) (hlt : ∀ i j, i < rows.length → j < rows.length → (ltRow (rows.getD i []) (rows.getD j [])).isSome = true)
    (q : ∀ l, H l = none → Q (.ref l) (upd H l (.lst ((sortIx (ltIx rows) rows.length).map fun i => vs.getD i .non)))) :
    wpAny (model X.prog X.w) A (sortRest its) (fun fin s' => ∃ v, fin = .done (.ret v) ∧ ∃ x H', Inv X pins σ H' s' ∧ RelV x v ∧ Q x H') E s := by
  obtain ⟨as, hr⟩ := RepAll.reads I _ vs its hrep rv
  have hlen : its.length = rows.length := by rw [ReadsAll.len hr, List.length_map]
  obtain ⟨m, F⟩ := I.fr
  have N : News X.base X.env.locals s.heap (allNews X.base s.heap X.env.locals) := news_all
  unfold sortRest
  refine PySem.W.l2_tail (Q := fun v s' => ∃ x H', Inv X pins σ H' s' ∧ RelV x v ∧ Q x H') F N (by omega) (by omega) fun D e1 h' F' N' hD => ?_
  have kp : ∀ (h1 : Heap), Fr X.base X.env.locals h1 m → (∀ q ∈ allNews X.base s.heap X.env.locals, h1.get? q.1 = some q.2) → ∀ b o, b ≠ X.env.locals → s.heap.get? b = some o → h1.get? b = some o := fun h1 G1 M1 b o hb e => by
    cases z : X.base.get? b with
    | some v =>
      have := I.bk b v z
      rw [e] at this; cases this
      exact G1.keep b _ z
    | none => exact M1 (b, o) (mem_allNews hb z e)
  have k' := kp h' F' (fun q hq => (N' q (List.mem_cons_of_mem _ hq)).1)
  have hsz : s.heap.get? D = none := by
    have hN := N' _ List.mem_cons_self
    cases e : s.heap.get? D with
    | none => rfl
    | some o => exact absurd (hD (D, o) (mem_allNews hN.2.1 hN.2.2 e)) (Nat.lt_irrefl _)
  have seqL : ∀ b o vs n, s.heap.get? b = some o → o.data = .seq vs n → b ≠ X.env.locals := fun b o vs n e d z => by
    obtain ⟨o', es, ep, x1, x2, _⟩ := F.ns
    subst z
    rw [e] at x1; cases x1
    rw [d] at x2; cases x2
  have onl : onlyTs (rows.map .tuple) = true := by
    clear hrep hr hlen q hknd hlt h2 h64
    induction rows with
    | nil => rfl
    | cons x r ih =>
      show (onlyTs x && onlyTs (r.map .tuple)) = true
      rw [(hsh x List.mem_cons_self).2, ih fun y hy => hsh y (List.mem_cons_of_mem _ hy)]; rfl
  have hr' : ReadsAll h' its (rows.map .tuple) as := rkAll (fun b o vs n e d => k' b o (seqL b o vs n e d) e) _ _ _ onl hr
  refine kind_rows (s := { s with heap := h' }) hr' (by omega) hknd ?_
  rw [hlen]
  refine KS.wp (lt := ltIx rows) (n := rows.length) (fun i j C hi hj c => ?_) (fun p hp' => ?_) ((ka_sort (by omega)).ks (lt := ltIx rows))
  · have at_ : ∀ i, i < rows.length → ∃ bs, Reads h' (its.getD i .none) (.tuple (rows.getD i [])) bs := fun i hi => by
      obtain ⟨bs, x⟩ := ReadsAll.at i hr' (by simpa using hi)
      have : (rows.map PyData.tuple).getD i .none = .tuple (rows.getD i []) := by
        rw [List.getD_eq_getElem?_getD, List.getElem?_map, List.getD_eq_getElem?_getD, List.getElem?_eq_getElem hi]; rfl
      rw [this] at x
      exact ⟨bs, x⟩
    obtain ⟨b1, r1⟩ := at_ i hi
    obtain ⟨b2, r2⟩ := at_ j hj
    have mem : ∀ i, i < rows.length → rows.getD i [] ∈ rows := fun i hi => by
      rw [List.getD_eq_getElem?_getD, List.getElem?_eq_getElem hi]; exact List.getElem_mem hi
    have hd : headI rows = true → ∀ r ∈ rows, r.head?.all isI = true := fun z r hr => by
      unfold headI at z
      have := List.all_eq_true.mp z r hr
      cases r with
      | nil => rfl
      | cons d ds => cases d <;> first | rfl | exact absurd this (by intro z; cases z)
    obtain ⟨c0, hc0⟩ := Option.isSome_iff_exists.mp (hlt i j hi hj)
    have hc : ltIx rows i j = c0 := by unfold ltIx; rw [hc0]; rfl
    rw [hc] at c
    exact key_lt (s := { s with heap := h' }) hu r1 r2 (hsh _ (mem i hi)).1 (hsh _ (mem j hj)).1 hc0 (fun z => ⟨hd z _ (mem i hi), hd z _ (mem j hj)⟩) c
  · obtain ⟨e, _⟩ := hp'
    subst e
    refine PySem.W.KasFin.intro F' N' (.head fun q hq => Nat.ne_of_lt (hD q hq)) fun h'' c F'' N'' => ?_
    have k'' := kp h'' F'' (fun q hq => (N'' q (List.mem_cons_of_mem _ hq)).1)
    refine ⟨.ref D, upd H D (.lst ((sortIx (ltIx rows) rows.length).map fun i => vs.getD i .non)), ?_, rfl, q D (I.hok.none hsz)⟩
    refine I.laidL k'' (fun m' hm' => ?_) hsz ⟨?_, _, c, vals_pick rv _, (N'' _ List.mem_cons_self).1⟩
    · rw [← Ns_same F.ns hm']; exact F''.ns
    · rw [List.length_map, (sortIx_perm (ltIx rows) (by omega)).length_eq, List.length_range]
      have : 64 ≤ sizeLine := by decide
      omega
theorem tail_S {A : Around} {vs : List V} {its : List Value} {Q : VK} (I : Inv X pins σ H s) (rv : Vals vs its) (h2 : vs.length < 2) (q : ∀ l, H l = none → Q (.ref l) (upd H l (.lst vs))) :
    wpAny (model X.prog X.w) A (sortRest its) (fun fin s' => ∃ v, fin = .done (.ret v) ∧ ∃ x H', Inv X pins σ H' s' ∧ RelV x v ∧ Q x H') E s := by
  have hl := rv.length
  have hz : its.length ≤ sizeLine := by rw [sizeLine_eq]; omega
  unfold sortRest
  refine wpAny_bind (wpAny_newList ?_ hz)
  refine wpAny_bind (wpAny_holding ?_)
  have gD : (s.heap.push { cls := .type "list", data := .seq its.toArray }).get? s.heap.objs.size = some (seqObj "list" its.toArray 0) := Heap.get?_push_size _ rfl
  refine wpAny_call_entry slot_list_sort ⟨_, gD, rfl⟩ entry_list_sort (list_sort_short gD (by omega) ⟨_, rfl, ?_⟩) (args_list_sort _)
  obtain ⟨c, gg⟩ : ∃ c, (sortedHeap (s.heap.push { cls := .type "list", data := .seq its.toArray }) s.heap.objs.size its its.toArray).get? s.heap.objs.size = some (seqObj "list" its.toArray c) := by
    unfold sortedHeap
    have g1 := get?_update_seq gD (fun _ => #[])
    have g2 := Heap.get?_push_of_some (seqObj "tuple" its.toArray 0) g1
    have g3 := Heap.get?_push_of_some (seqObj "list" #[] 0) g2
    exact ⟨_, get?_update_seq g3 (fun _ => its.toArray)⟩
  refine wpAny_pure ⟨_, rfl, .ref s.heap.objs.size, upd H s.heap.objs.size (.lst vs), I.laid (t' := s.toks) (fun b o e => ?_) (Nat.le_refl _) ⟨by omega, its, c, rv, gg⟩, rfl, q _ (I.hok.fresh (Nat.le_refl _))⟩
  · have hb : b ≠ s.heap.objs.size := Nat.ne_of_lt (Heap.lt_size e)
    unfold sortedHeap
    rw [Heap.get?_update_ne _ _ _ _ hb]
    refine Heap.get?_push_of_some _ (Heap.get?_push_of_some _ ?_)
    rw [Heap.get?_update_ne _ _ _ _ hb]
    exact Heap.get?_push_of_some _ e
theorem tail_V {A : Around} {vs : List V} {its : List Value} {Q : VK} (hu : A.in1.units + 64 < cLine) (I : Inv X pins σ H s) (rv : Vals vs its) (h : rSortV X.K vs H Q) :
    wpAny (model X.prog X.w) A (sortRest its) (fun fin s' => ∃ v, fin = .done (.ret v) ∧ ∃ x H', Inv X pins σ H' s' ∧ RelV x v ∧ Q x H') E s := by
  rcases h with ⟨rows, a, b, c, d, e, f, g⟩ | ⟨a, b⟩
  · exact tail_D hu I rv a b c d e f g
  · exact tail_S I rv a b
def layPairs : List (V × V) → Hp → (List V → Hp → Prop) → Prop
  | [], H, k => k [] H
  | (x, y) :: r, H, k => ∀ p, H p = none → layPairs r (upd H p (.tup [x, y])) fun vs H2 => k (.ref p :: vs) H2
theorem Inv.trackT {e : Addr} {vs : List V} {its : List Value} {n : Nat} (I : Inv X pins σ H s) (he : s.heap.get? e = some { cls := .type "tuple", data := .seq its.toArray n }) (rv : Vals vs its) (hz : vs.length ≤ sizeLine) (hn : H e = none) (h0 : X.s₀.heap.get? e = none) (hp : ∀ p ∈ X.pn ++ pins, p.1 ≠ e) :
    Inv X pins σ (upd H e (.tup vs)) s := by
  have ne : ∀ b u, H b = some u → b ≠ e := fun b u z => ne_of_none z hn
  have nd : ∀ b (o : Obj), s.heap.get? b = some o → (∀ vs n, o.data ≠ .seq vs n) → b ≠ e := fun b o q z w => by
    subst w; rw [he] at q; cases q; exact z _ _ rfl
  refine ⟨I.ok, I.os, I.bare, ⟨I.base.keep, I.base.slot, fun b o q n hx => ?_, I.base.there, fun b xs q => ?_, fun b o u q => ?_, fun b ps q => ?_⟩, I.loc, I.cell, ?_, fun x c q => ?_, fun p h => ?_, fun b u q => ?_, I.len⟩
  · rw [upd_ne (fun z => by rw [z, h0] at q; cases q)]
    exact I.base.free b o q n hx
  · have := I.base.tups b xs q
    rw [upd_ne (ne _ _ this)]; exact this
  · have := I.base.frzs b o u q
    rw [upd_ne (ne _ _ this)]; exact this
  · obtain ⟨more, this⟩ := I.base.tbls b ps q
    exact ⟨more, by rw [upd_ne (ne _ _ this)]; exact this⟩
  · obtain ⟨m, ⟨o, es, ep, ho, hd, _⟩, _⟩ := I.loc
    rw [upd_ne (nd _ o ho fun vs n z => by rw [hd] at z; cases z)]
    exact I.free
  · obtain ⟨v, o, ho, hd⟩ := I.cell x c q
    rw [upd_ne (nd _ o ho fun vs n z => by rw [hd] at z; cases z)]
    exact I.freeC x c q
  · obtain ⟨q1, q2, q3⟩ := I.pin p h
    exact ⟨q1, by rw [upd_ne (hp p h)]; exact q2, q3⟩
  · by_cases hb : b = e
    · subst hb
      rw [upd_same] at q
      cases q
      exact ⟨hz, its, rv, ⟨_, he, rfl, n, rfl⟩⟩
    · rw [upd_ne hb] at q
      exact (I.hok b u q).stay (fun _ _ _ z => z) (fun c z => by rw [upd_ne (ne _ _ z)]; exact z) fun c xs z => by rw [upd_ne (ne _ _ z)]; exact z
theorem lay_inv : ∀ {ps : List (V × V)} {us : List (Value × Value)} {as : List Addr} {H : Hp} {k : List V → Hp → Prop}, Inv X pins σ H s → Paired (fun p q => RelV p.1 q.1 ∧ RelV p.2 q.2) ps us → as.length = us.length → as.Pairwise (· < ·) → (∀ a ∈ as, H a = none) →
    (∀ (j : Nat) (a : Addr), as[j]? = some a → ∃ p, us[j]? = some p ∧ s.heap.get? a = some { cls := .type "tuple", data := .seq #[p.1, p.2] }) → (∀ a ∈ as, X.s₀.heap.get? a = none ∧ ∀ p ∈ X.pn ++ pins, p.1 ≠ a) → layPairs ps H k → ∃ H2, Inv X pins σ H2 s ∧ k (as.map .ref) H2
  | [], us, as, H, k, I, r, hl, _, _, _, _, h => by
    cases r
    have : as = [] := List.eq_nil_of_length_eq_zero hl
    subst this
    exact ⟨H, I, h⟩
  | (x, y) :: ps, us, as, H, k, I, r, hl, hp, hn, hg, h0, h => by
    cases r with
    | @cons _ q _ us' r1 r2 =>
      match as, hl, hp, hn, hg, h0 with
      | a :: as', hl, hp, hn, hg, h0 =>
        obtain ⟨p, e1, e2⟩ := hg 0 a rfl
        have e1 : some q = some p := e1
        cases e1
        obtain ⟨p1, p2⟩ := List.pairwise_cons.mp hp
        have I1 := I.trackT (e := a) (vs := [x, y]) (its := [q.1, q.2]) e2 (.cons r1.1 (.cons r1.2 .nil)) (by show 2 ≤ sizeLine; rw [sizeLine_eq]; decide) (hn a List.mem_cons_self) (h0 a List.mem_cons_self).1 (h0 a List.mem_cons_self).2
        have hl' : as'.length = us'.length := Nat.succ.inj hl
        obtain ⟨H2, I2, hk⟩ := lay_inv (as := as') (k := fun vs H2 => k (.ref a :: vs) H2) I1 r2 hl' p2 (fun b hb => by rw [upd_ne (Nat.ne_of_gt (p1 b hb))]; exact hn b (List.mem_cons_of_mem _ hb)) (fun j b hb => hg (j + 1) b hb) (fun b hb => h0 b (List.mem_cons_of_mem _ hb)) (h a (hn a List.mem_cons_self))
        exact ⟨H2, I2, hk⟩
def tSortI (K : PySem.W.Frag) (td : TE) : TE := fun σ H Q => td σ H fun x H1 => ∃ a kvs, x = .ref a ∧ H1 a = some (.dT kvs) ∧
  ∀ bs : List Addr, Paired (fun (b : Addr) (kv : List Key × V) => H1 b = some (.tup (kv.1.map kV))) bs kvs → layPairs ((bs.zip kvs).map fun p => (.ref p.1, p.2.2)) H1 fun vs H2 => rSortV K vs H2 Q
end
section
variable {X : Cx} {o : Expr} {td : TE} {pos apos cpos p : Pos}
theorem KT.addrs {H : Hp} : ∀ {kvs : List (List Key × V)} {xs : List (List Key × Addr × Value)}, KT H kvs xs → Paired (fun (b : Addr) (kv : List Key × V) => H b = some (.tup (kv.1.map kV))) (xs.map fun x => x.2.1) kvs ∧
    Paired (fun (p : V × V) (q : Value × Value) => RelV p.1 q.1 ∧ RelV p.2 q.2) (((xs.map fun x => x.2.1).zip kvs).map fun p => (V.ref p.1, p.2.2)) (xs.map fun x => (Value.ref x.2.1, x.2.2))
  | _, _, .nil => ⟨.nil, .nil⟩
  | _, _, .cons r1 r2 => ⟨.cons r1.2.1 (KT.addrs r2).1, .cons ⟨rfl, r1.2.2⟩ (KT.addrs r2).2⟩
theorem pe_sortI (hu : X.A.in1.in1.units + 64 < cLine) (hc : X.calm = true) (hg : Gl X "sorted") (hm : X.mg "sorted" = none) (ho : PE X o td) (hb : attributeBase o "items" X.env (eval o X.env) = eval o X.env) (hline : (apos.endLine == cpos.line) = true) :
    PE X (.Call (.Name "sorted" p) [.Call (.Attribute o "items" apos) [] [] cpos] [] pos) (tSortI X.K td) := by
  intro pins s σ H Q I h
  refine wpAny_Call_Name_kw (ld_blt I hg hm boot_sorted ?_ (by decide) (by decide))
  refine PyProof.Rows.callWith_builtin1 ?_ rfl rfl
  show wpAny _ _ (spliced ((false, eval (.Call (.Attribute o "items" apos) [] [] cpos) X.env) :: [])) _ _ s
  refine Calls.spliced_cons ?_
  refine wpAny_Call_method (T := "dict") (id := "dict.items") hb rfl hline PySem.F.plainAttrs_dict PySem.F.slot_dict_items PySem.F.type_dict_items (thn (ho pins s σ H _ I h) fun u s1 ⟨x, H1, I1, rx, a, kvs, ex, ea, q⟩ => ?_)
  subst ex
  obtain rfl : u = Value.ref a := rx
  obtain ⟨z, hs, xs, r, od, es, ep, h1, h2, h3, h4, h5⟩ := (show ObjOk X.prog X.w H1 s1.heap a (.dT kvs) from I1.hok a _ ea)
  have hT : s1.TypeIs (.ref a) "dict" := ⟨od, h1, h2.1⟩
  refine ⟨hT, fun b e => by cases e; exact ⟨od, h1, h2.2.1⟩, ?_⟩
  show wpAny _ _ (callWith cpos (.builtin "dict.items") [.ref a] [] []) _ _ s1
  refine method_meetsIn PySem.F.slot_dict_items PySem.F.entry_dict_items rfl (PySem.evalArgs_none ⟨rfl, hT, PySem.F.args_dict_items_1 _, _, items_made a hs, hT, ?_⟩)
  refine Calls.spliced_nil ?_
  have I2 : Inv X pins σ H1 { s1 with heap := s1.heap.push { cls := .type "dict_items", data := .fields #[.ref a] } } := I1.kept (t' := s1.toks) fun b o e => Heap.get?_push_of_some _ e
  have hv : (s1.heap.push { cls := .type "dict_items", data := .fields #[.ref a] }).IsItemsView s1.heap.objs.size a := ⟨_, Heap.get?_push_size _ rfl, rfl, rfl⟩
  have hat : Raw (s1.heap.push { cls := .type "dict_items", data := .fields #[.ref a] }) a es ep := ⟨od, Heap.get?_push_of_some _ h1, h3⟩
  have hzs : es.size = xs.length := by rw [← Array.length_toList, h4, List.length_map]
  have hl : kvs.length = xs.length := Paired.len r
  refine Calls.call_function_entry kind_sorted plain_sorted entry_sorted (args_sorted1 _) ?_
  unfold Builtin.«sorted»
  refine wpAny_bind (m := checkCount "sorted" 1 1 _) (wpAny_pure ?_)
  refine wpAny_bind (items_all (A := X.A.in1) (I.ok.hd hc) hv hat (by rw [hzs, ← hl]; exact z) fun h' tk as hk hal hG => ?_)
  have I3 : Inv X pins σ H1 { s1 with heap := h', toks := tk } := I2.kept hk
  obtain ⟨pk1, pk2⟩ := KT.addrs r
  have hge : ∀ b ∈ as, s1.heap.objs.size < b := fun b hb => Nat.lt_trans (show s1.heap.objs.size < (s1.heap.push { cls := .type "dict_items", data := .fields #[.ref a] }).objs.size by rw [Heap.size_push]; exact Nat.lt_succ_self _) (hG.above b hb)
  obtain ⟨H2, I4, hk2⟩ := lay_inv (as := as) (s := { s1 with heap := h', toks := tk }) I3 pk2 (by rw [hal, hzs, List.length_map]) hG.rise (fun b hb => I1.hok.fresh (Nat.le_of_lt (hge b hb))) (fun j b hj => by
    obtain ⟨e, e1, e2⟩ := hG.duos j b hj
    refine ⟨(e.key, e.val), ?_, e2⟩
    rw [← Array.getElem?_toList, h4, List.getElem?_map] at e1
    rw [List.getElem?_map]
    cases c : xs[j]? <;> rw [c] at e1 <;> cases e1
    rfl) (fun b hb => ⟨Heap.get?_none_of_le (Nat.le_trans I1.sz (Nat.le_of_lt (hge b hb))), fun p hp => Nat.ne_of_lt (Nat.lt_trans (Heap.lt_size (I1.pin p hp).1) (hge b hb))⟩) (q _ pk1)
  exact tail_V (A := X.A.in1) hu I4 (its := as.map Value.ref) (by
    clear hk2 hG hal hge
    induction as with
    | nil => exact .nil
    | cons b as ih => exact .cons rfl ih) hk2
end
section
variable {K : PySem.W.Frag} {td : TE} {fo : EF}
theorem Good.adopt {W : Wd} {M : Sto} {H : Hp} {b : Addr} {us : List V} (G : Good K W M H) (hb : H b = some (.tup us)) : W.Ext { W with F := upd W.F b (.tup us) } ∧ Good K { W with F := upd W.F b (.tup us) } M H := by
  have ff : Same W.F (upd W.F b (.tup us)) := fun c o hc => by
    by_cases q : c = b
    · subst q
      have := G.fh _ _ hc
      rw [hb] at this; cases this
      exact upd_same
    · rw [upd_ne q]; exact hc
  have e : W.Ext { W with F := upd W.F b (.tup us) } := ⟨ff, Nat.le_refl _, fun _ _ => rfl⟩
  refine ⟨e, fun c o hc => ?_, G.n, fun i c hi hc => ?_, G.inj⟩
  · have hc : upd W.F b (.tup us) c = some o := hc
    by_cases q : c = b
    · subst q; rw [upd_same] at hc; cases hc; exact hb
    · rw [upd_ne q] at hc; exact G.fh c o hc
  · obtain ⟨h1, o, h2, h3⟩ := G.cs i c hi hc
    have ne : W.α i ≠ b := fun q => by
      rw [q, hb] at h2
      cases h2
      cases c <;> exact False.elim h3
    exact ⟨by show upd W.F b (.tup us) (W.α i) = none; rw [upd_ne ne]; exact h1, o, h2, h3.up e⟩
def rowT (kv : List Key × PyData) : List PyData := [.tuple (kv.1.map keyD), kv.2]
def allDV : List (List Key × CD) → Option (List (List Key × PyData))
  | [] => some []
  | (k, .d x) :: r => (allDV r).bind fun q => some ((k, x) :: q)
  | _ => none
def sortRows (rows : List (List PyData)) : Option (List PyData) := if sortable rows = true then some (sortD rows) else if rows.length < 2 then some (rows.map .tuple) else none
def fSortI (fo : EF) : EF := fun γ M => (fo γ M).bind fun o => match o.1 with
  | .c i => match o.2[i]? with
    | some (.dt kvs) => (allDV kvs).bind fun ds => (sortRows (ds.map rowT)).bind fun r => some (.d (.list r), o.2)
    | _ => none
  | _ => none
theorem rep_key {H : Hp} : ∀ ks : List Key, RepAll K H (ks.map keyD) (ks.map kV)
  | [] => rfl
  | k :: ks => ⟨_, _, rfl, by cases k <;> rfl, rep_key ks⟩
theorem adopt_all {M : Sto} {H : Hp} : ∀ {bs : List Addr} {kvs : List (List Key × V)} {W : Wd}, Good K W M H → Paired (fun (b : Addr) (kv : List Key × V) => H b = some (.tup (kv.1.map kV))) bs kvs → ∃ W', W.Ext W' ∧ Good K W' M H ∧ Paired (fun (b : Addr) (kv : List Key × V) => W'.F b = some (.tup (kv.1.map kV))) bs kvs
  | _, _, W, G, .nil => ⟨W, .refl _, G, .nil⟩
  | _, _, W, G, .cons h1 h2 => by
    obtain ⟨e1, G1⟩ := G.adopt h1
    obtain ⟨W2, e2, G2, p2⟩ := adopt_all G1 h2
    exact ⟨W2, e1.trans e2, G2, .cons (e2.ff _ _ upd_same) p2⟩
theorem lay_rows {M : Sto} : ∀ {bs : List Addr} {ds : List (List Key × PyData)} {kvs : List (List Key × V)} {W : Wd} {H : Hp} {k : List V → Hp → Prop}, Good K W M H → Paired (fun (b : Addr) (kv : List Key × V) => W.F b = some (.tup (kv.1.map kV))) bs kvs → Paired (fun (p : List Key × PyData) (q : List Key × V) => p.1 = q.1 ∧ Rep K W.F p.2 q.2) ds kvs →
    (∀ vs W' H', W.Ext W' → Good K W' M H' → RepAll K W'.F ((ds.map rowT).map .tuple) vs → k vs H') → layPairs ((bs.zip kvs).map fun p => (.ref p.1, p.2.2)) H k
  | _, _, _, W, H, k, G, .nil, .nil, c => c [] W H (.refl _) G rfl
  | b :: bs, (ks, d) :: ds, (ks', v) :: kvs, W, H, k, G, .cons h1 h2, .cons q1 q2, c => by
    obtain ⟨rfl, rd⟩ := (show ks = ks' ∧ Rep K W.F d v from q1)
    intro p hp
    obtain ⟨e1, G1⟩ := G.lay (o := .tup [.ref b, v]) hp
    refine lay_rows G1 (Paired.mapP h2 fun _ _ r => e1.ff _ _ r) (Paired.mapP q2 fun _ _ r => ⟨r.1, Rep.same e1.ff _ _ r.2⟩) fun vs W2 H2 e2 G2 r2 => ?_
    refine c _ W2 H2 (e1.trans e2) G2 ⟨_, _, rfl, ⟨p, _, rfl, SqT.of (e2.ff _ _ upd_same), ?_⟩, r2⟩
    exact ⟨_, _, rfl, ⟨b, _, rfl, SqT.of ((e1.trans e2).ff _ _ h1), rep_key ks⟩, _, _, rfl, Rep.same (e1.trans e2).ff _ _ rd, rfl⟩
theorem allDV_rep {W : Wd} : ∀ {kvs : List (List Key × CD)} {ds : List (List Key × PyData)} {us : List (List Key × V)}, allDV kvs = some ds → PKV K W kvs us → Paired (fun (p : List Key × PyData) (q : List Key × V) => p.1 = q.1 ∧ Rep K W.F p.2 q.2) ds us
  | [], _, _, h, .nil => by cases h; exact .nil
  | (k, .d x) :: r, _, _, h, .cons r1 r2 => by
    obtain ⟨q, h1, h⟩ := bindE (show (allDV r).bind _ = _ from h)
    cases h
    exact .cons r1 (allDV_rep h1 r2)
  | (k, .c _) :: r, _, _, h, _ => by cases h
theorem se_sortI (a : SE K td fo) : SE K (tSortI K td) (fSortI fo) := by
  intro γ M x M' hh W H σ Q G R k
  obtain ⟨⟨o, M1⟩, h1, hh⟩ := bindE hh
  revert hh
  dsimp only
  split
  · rename_i i
    split
    · rename_i kvs hk
      intro hh
      obtain ⟨ds, h2, hh⟩ := bindE hh
      obtain ⟨r, h3, hh⟩ := bindE hh
      cases hh
      refine a _ _ _ _ h1 W H σ _ G R fun v W1 H1 e1 G1 r1 => ?_
      obtain ⟨us, hu, pu⟩ := G1.dtAt hk
      refine ⟨_, us, r1.2, hu, fun bs pb => ?_⟩
      obtain ⟨W2, e2, G2, p2⟩ := adopt_all G1 pb
      refine lay_rows G2 p2 (Paired.mapP (allDV_rep h2 pu) fun _ _ r => ⟨r.1, Rep.same e2.ff _ _ r.2⟩) fun vs W3 H3 e3 G3 r3 => ?_
      have e13 := (e1.trans e2).trans e3
      unfold sortRows at h3
      by_cases hs : sortable (ds.map rowT) = true
      · rw [if_pos hs] at h3
        cases h3
        obtain ⟨s1, s2, s3, s4, s5⟩ := sortable_of hs
        refine .inl ⟨ds.map rowT, RepAll.same G3.fh _ _ r3, s1, s2, s3, s4, s5, fun l hl => ?_⟩
        obtain ⟨e4, G4⟩ := G3.lay (o := .lst ((sortIx (ltIx (ds.map rowT)) (ds.map rowT).length).map fun i => vs.getD i .non)) hl
        exact k _ _ _ (e13.trans e4) G4 ⟨l, _, rfl, SqL.of upd_same, RepAll.same e4.ff _ _ (rep_pick r3 _ (ix_lt (by omega)))⟩
      · rw [if_neg hs] at h3
        by_cases hl2 : (ds.map rowT).length < 2
        · rw [if_pos hl2] at h3
          cases h3
          refine .inr ⟨by rw [← r3.length, List.length_map]; exact hl2, fun l hl => ?_⟩
          obtain ⟨e4, G4⟩ := G3.lay (o := .lst vs) hl
          exact k _ _ _ (e13.trans e4) G4 ⟨l, _, rfl, SqL.of upd_same, RepAll.same e4.ff _ _ r3⟩
        · rw [if_neg hl2] at h3; cases h3
    · intro hh; cases hh
  · intro hh; cases hh
theorem me_sortI {ι : Type} {X : ι → Cx} {o : Expr} {f : EF} {pos apos cpos p : Pos} (hK : ∀ i, (X i).K = K) (hu : ∀ i, (X i).A.in1.in1.units + 64 < cLine) (hc : ∀ i, (X i).calm = true) (hm : ∀ i, (X i).mg "sorted" = none) (x : ME K X o f) (hg : ∀ i, Gl (X i) "sorted" := by intro _; rfl)
    (hb : ∀ env : Env, attributeBase o "items" env (eval o env) = eval o env := by intro _; rfl) (hline : (apos.endLine == cpos.line) = true := by rfl) : ME K X (.Call (.Name "sorted" p) [.Call (.Attribute o "items" apos) [] [] cpos] [] pos) (fSortI f) := by
  obtain ⟨t, x1, x2⟩ := x.ex
  exact ⟨_, fun i => by have := pe_sortI (p := p) (pos := pos) (apos := apos) (cpos := cpos) (hu i) (hc i) (hg i) (hm i) (x1 i) (hb _) hline; rw [hK i] at this; exact this, se_sortI x2⟩
end
end L2

end

section
set_option Elab.async false
set_option linter.all false
set_option maxRecDepth 100000
set_option maxHeartbeats 4000000
namespace L2
open PySem PySem.Spec PyProof.Rows
section
variable {K : PySem.W.Frag}
def fFreeze (f : EF) : EF := fun γ M => (f γ M).bind fun r => match r.1 with
  | .c i => match r.2[i]? with
    | some (.lst xs) => (allD xs).bind fun ds => some (.d (.list ds), r.2.set i .dead)
    | _ => none
  | .d x => some (.d x, r.2)
def listN : FN := fun xs M => match xs with
  | [.d a] => (itemsD a).bind fun ds => some (.c M.length, M ++ [.lst (ds.map .d)])
  | [.c i] => match M[i]? with
    | some (.lst ys) => some (.c M.length, M ++ [.lst ys])
    | _ => none
  | _ => none
theorem pn_listN : PN K (rListK K) listN := by
  intro xs M z M' h W H vs Q G r k
  unfold listN at h
  split at h
  · rename_i a
    obtain ⟨ds, h1, h⟩ := bindE h
    cases h
    rcases r with _ | ⟨r1, _ | _⟩
    obtain ⟨p, us, rfl, hs, hr⟩ := rep_seq (show Rep K W.F a _ from r1) h1
    refine ⟨p, us, rfl, hs.elim (fun q => .inl (G.fh.seq q)) (fun q => .inr (G.fh.seqT q)), fun l hl => ?_⟩
    exact k _ (W.more l) _ (W.ext_more l) (G.new hl (c := .lst (ds.map .d)) (o := .lst us) (repVs_of hr)) G.newV
  · rename_i i
    split at h
    · rename_i ys hy
      cases h
      rcases r with _ | ⟨r1, _ | _⟩
      obtain ⟨us, hv, hr⟩ := G.lstAt hy
      refine ⟨_, us, by rw [r1.2], .inl (SqL.of hv), fun l hl => ?_⟩
      exact k _ (W.more l) _ (W.ext_more l) (G.new hl (c := .lst ys) (o := .lst us) hr) G.newV
    · cases h
  · cases h
theorem q_listN {ι : Type} {X : ι → Cx} (hK : ∀ i, (X i).K = K) : QN K X (.type "list") listN := ⟨_, fun i => kList (hK i), pn_listN⟩
end
end L2

end

section
set_option Elab.async false
set_option linter.all false
set_option maxRecDepth 100000
set_option maxHeartbeats 4000000
namespace L2
open PySem PySem.Spec PyProof.Rows
section
variable {X : Cx} {pins : List (Addr × Obj)} {σ : St} {H : Hp} {s : Shared} {a : Addr} {y v : V} {u r : Value} {A : Around} {E : Value → Shared → Prop}
theorem d_dictSet {H' : Hp} {Q : Unit → Shared → Prop} (hu : A.units < cLine) (I : Inv X pins σ H s) (g : DPut H a y v H') (ry : RelV y u) (rv : RelV v r) (h : ∀ s', Inv X pins σ H' s' → Q () s') :
    wpAny (model X.prog X.w) A (dictSet a u r) Q E s := by
  rcases g with ⟨kvs, k, e, ey, l, eH⟩ | ⟨kvs, k, b, e, ey, eb, l, eH⟩
  · subst ey eH
    obtain ⟨z, hd, vs, rel, dd⟩ := dk_of I.hok e
    have hz : vs.length ≤ sizeLine := by rw [← rel.length]; exact z
    have hl : (putK kvs k v).length ≤ sizeLine := by have := length_putK kvs k v; omega
    refine wpAny_dictSet_pairs (hsz := hz) (kV_is ry) dd fun h' dd' hs => h _ ?_
    have he : ∃ q, h'.get? a = some q := let ⟨q, _, _, hq, _⟩ := dd'; ⟨q, hq⟩
    exact d_write I (by rw [e]; exact True.intro) hs he (dk_new hl hd (rel.put k rv) dd')
  · subst ey eH
    cases (show u = Value.ref b from ry)
    obtain ⟨z, hd, xs, rel, dd⟩ := dt_of I.hok e
    have hz : xs.length ≤ sizeLine := by rw [← Paired.length rel]; exact z
    have hl : (putK kvs k v).length ≤ sizeLine := by have := length_putK kvs k v; omega
    refine wpAny_dictSet_heap (hsz := hz) hu (key_of I.hok eb) dd fun h' dd' hs => h _ ?_
    obtain ⟨q, es, ep, hq, h2, h3, h4, _, h5⟩ := dd'
    refine d_write I (by rw [e]; exact True.intro) hs ⟨q, hq⟩ ⟨hl, hd, _, (rel.put k eb rv).keeps fun c ys ec => ?_, q, es, ep, hq, h2, h3, h4, h5⟩
    rw [upd_ne (ne_of ec e (fun z => nomatch z))]
    exact ec
end
section
variable {prog : Program} {w : World} {A : Around} {R : Result → Shared → Prop} {s : Shared}
theorem dc_loop {kx vx target iter : Expr} {ifs : List Expr} {scope : Scope} {pos : Pos} {it : Value} {D : Addr} {env : Env} (I : Nat → Shared → Prop)
    (turn : ∀ n s, I n s → wpAny (model prog w) A (pyNext it) (fun r s1 => (r = none ∧ R (.ok .next) s1) ∨ ∃ v, r = some v ∧
      wpAny (model prog w) A (letOwnedTupleGo target it v) (fun _ s2 => wpAny (model prog w) A (assign target env v) (fun _ s3 =>
        wpAny (model prog w) A (forIn ifs true fun c r => if r = true then (do
          let ok ← isTrue c env (eval c env)
          pure (ForInStep.yield ok)) else pure (ForInStep.yield r)) (fun ok s4 =>
            (ok = true ∧ wpAny (model prog w) A (eval kx env) (fun kv s5 => wpAny (model prog w) A (eval vx env) (fun vv s6 => wpAny (model prog w) A (dictSet D kv vv) (fun _ s7 => ∃ m, m < n ∧ I m s7) (fun _ _ => False) s6) (fun _ _ => False) s5) (fun _ _ => False) s4) ∨
            (ok = false ∧ ∃ m, m < n ∧ I m s4)) (fun _ _ => False) s3) (fun _ _ => False) s2) (fun _ _ => False) s1) (fun _ _ => False) s)
    (n : Nat) (h : I n s) : codeAny (model prog w) A (.compLoop (.DictComp kx vx [⟨target, iter, ifs, 0⟩] scope pos) 0 it (.ref D) env) R s := by
  refine codeAny_loop rfl I (fun n s hI => ?_) n h
  show wpAny _ A ((compTurn (.DictComp kx vx [⟨target, iter, ifs, 0⟩] scope pos) 0 it (.ref D) env).onRaise fun x => do
    noteFrame x env
    theTreesLotGoes x) _ _ s
  refine wpAny_noted ?_
  rw [compTurn_dict]
  refine wpAny_bind (wpAny_standAt (wpAny_bind (wpAny_mono (turn n s hI) (fun r s1 h1 => ?_) fun _ _ f => f.elim)))
  rcases h1 with ⟨rfl, h1⟩ | ⟨v, rfl, h1⟩
  · exact wpAny_pure h1
  · refine wpAny_bind (wpAny_mono h1 (fun _ s2 h2 => ?_) fun _ _ f => f.elim)
    refine wpAny_bind (wpAny_mono h2 (fun _ s3 h3 => ?_) fun _ _ f => f.elim)
    refine wpAny_bind (wpAny_mono h3 (fun ok s4 h4 => ?_) fun _ _ f => f.elim)
    rcases h4 with ⟨rfl, h4⟩ | ⟨rfl, h4⟩
    · refine wpAny_bind (wpAny_bind (wpAny_mono h4 (fun kv s5 h5 => ?_) fun _ _ f => f.elim))
      refine wpAny_bind (wpAny_holding (wpAny_mono h5 (fun vv s6 h6 => ?_) fun _ _ f => f.elim))
      refine wpAny_bind (wpAny_standAt (wpAny_holding (wpAny_mono h6 (fun _ s7 h7 => wpAny_pure ⟨rfl, h7⟩) fun _ _ f => f.elim)))
    · exact wpAny_pure ⟨rfl, h4⟩
end
def tDc (o0 : HO) (cap : List (Option Nat)) (wi : TI) (g : TG) (tc : TT) (tk tv : TE) : TE := fun σ H Q => wi σ H fun J H1 => ∀ D, H1 D = none → ∃ W : Nat → Nat → St → Hp → Prop, (∃ m, W 0 m (capS cap σ) (upd H1 D o0)) ∧ ∀ i m σ' H', W i m σ' H' →
  (J.stop i H' ∧ Q (.ref D) H') ∨
  (J.go i H' ∧ ∃ N : St → Hp → Prop, (∀ σ2 H2, N σ2 H2 → ∃ m', m' < m ∧ W (i + 1) m' σ2 H2) ∧ ∀ x H2, J.yld i H' x H2 → g x σ' H2 fun σ2 H3 => tc σ2 H3 fun b H4 => (b = true ∧ tk σ2 H4 fun y H5 => tv σ2 H5 fun v H6 => ∃ H7, DPut H6 D y v H7 ∧ N σ2 H7) ∨ (b = false ∧ N σ2 H4))
section
variable {X : Cx} {N' : List Str} {cap : List (Option Nat)} {scope : Scope}
theorem pe_dc {o0 : HO} (ho : o0 = .dT [] ∨ o0 = .dK []) {kx vx tg iter : Expr} {ifs : List Expr} {pos : Pos} {wi : TI} {g : TG} {tc : TT} {tk tv : TE} (hu : X.A.units < cLine) (hc : X.calm = true) (S : LcSc X N' cap scope) (hi : PI X tg iter wi)
    (hg : ∀ C s H fp pn, PG (lcCx X N' scope C s H fp pn) tg g) (hif : ∀ C s H fp pn, PIfs (lcCx X N' scope C s H fp pn) ifs tc) (hk : ∀ C s H fp pn, PE (lcCx X N' scope C s H fp pn) kx tk) (hv : ∀ C s H fp pn, PE (lcCx X N' scope C s H fp pn) vx tv)
    (hs : ∀ x, foldedSetIterable iter X.env x = pure x := by intro _; rfl) : PE X (.DictComp kx vx [⟨tg, iter, ifs, 0⟩] scope pos) (tDc o0 cap wi g tc tk tv) := by
  intro pins s σ H Q I h
  show wpAny _ _ (comprehension (.DictComp kx vx [⟨tg, iter, ifs, 0⟩] scope pos) scope X.env (firstIterPos [⟨tg, iter, ifs, 0⟩] pos) newDict false (firstIter [⟨tg, iter, ifs, 0⟩] X.env) none) _ _ s
  refine wpAny_comprehension_free (e := .DictComp kx vx [⟨tg, iter, ifs, 0⟩] scope pos) (g := ⟨tg, iter, ifs, 0⟩) (gs := []) rfl hs (closure_eq (S.cells I.ok)) S.kind S.names ?_
  refine thn (hi pins s σ H _ I h) fun v s1 h1 => thn h1 fun itv s2 h2 => ?_
  obtain ⟨it, fp, tn, J, H2, e, I2, T, st2, f2, hD⟩ := h2
  subst e
  have fplt2 : ∀ b ∈ fp, b < s2.heap.objs.size := fun b hb => by
    obtain ⟨o, e, _⟩ := T.obj _ _ st2 b hb
    exact Heap.lt_size e
  refine wpAny_newObj_type ?_
  obtain ⟨W, ⟨m0, w0⟩, turn⟩ := hD s2.heap.objs.size (I2.hok.fresh (Nat.le_refl _))
  generalize hDn : s2.heap.objs.size = D at *
  have I3 : Inv X pins σ (upd H2 D o0) { s2 with heap := s2.heap.push { cls := .type "dict", data := .dict #[] } } := by
    refine I2.laid (t' := s2.toks) (fun _ _ q => Heap.get?_push_of_some _ q) (Nat.le_of_eq hDn) ?_
    rcases ho with rfl | rfl
    · rw [← hDn]; exact dt_empty _ I2.big
    · rw [← hDn]; exact dk_empty _ I2.big
  have st3 : tn 0 (s2.heap.push { cls := .type "dict", data := .dict #[] }) := T.keep _ _ _ st2 fun b _ o e => Heap.get?_push_of_some _ e
  have f3 : ∀ b ∈ fp, FpOk X pins (upd H2 D o0) b := fun b hb => by
    obtain ⟨q0, q1⟩ := f2 b hb
    exact ⟨by rw [upd_ne (Nat.ne_of_lt (fplt2 b hb))]; exact q0, q1⟩
  generalize hs3 : ({ s2 with heap := s2.heap.push { cls := .type "dict", data := .dict #[] } } : Shared) = s3 at I3 ⊢
  have st3 : tn 0 s3.heap := by rw [← hs3]; exact st3
  have fplt : ∀ b ∈ fp, b < s3.heap.objs.size := fun b hb => by
    obtain ⟨o, e, _⟩ := T.obj _ _ st3 b hb
    exact Heap.lt_size e
  refine wpAny_newFunctionEnv S.nocell (fun y hy => by simp at hy) (fun h1' hns hsb => ?_) S.kind
  have old : ∀ b o, s3.heap.get? b = some o → h1'.get? b = some o := fun b o e => hsb.extBut b o (Nat.ne_of_lt (Heap.lt_size e)) (Heap.get?_push_of_some _ e)
  have I4 : Inv (lcCx X N' scope s3.heap.objs.size s3 (upd H2 D o0) fp pins) [] (capS cap σ) (upd H2 D o0) { s3 with heap := h1', toks := s3.toks + ([] : List (Str × Value)).length } :=
    lc_start S I3 f3 fplt (Nat.le_refl _) (by simpa using hns) old
  have loop : ∀ s4 : Shared, s4 = { s3 with heap := h1', toks := s3.toks + ([] : List (Str × Value)).length } →
      codeAny (model X.prog X.w) X.A (.compLoop (.DictComp kx vx [⟨tg, iter, ifs, 0⟩] scope pos) 0 (.ref it) (.ref D) (compEnvC scope (closeOf X.env scope.names []) s3.heap.objs.size X.env)) (compPost (model X.prog X.w) X.A X.xe none (fun v s' => ∃ x H', Inv X pins σ H' s' ∧ RelV x v ∧ Q x H') (.ref D) s3.heap.objs.size) s4 := by
    rintro s4 rfl
    have stat : ∀ {Hx : Hp}, (∀ b ∈ fp, Hx b = none) → ∀ b ∈ fp, FpOk (lcCx X N' scope s3.heap.objs.size s3 (upd H2 D o0) fp pins) [] Hx b := fun {Hx} hn b hb => by
      refine ⟨hn b hb, Nat.ne_of_lt (fplt b hb), I3.stkAll (f3 b hb).2.1 (f3 b hb).2.2.1, .inl hb, fun x c e => (f3 b hb).2.2.2.2.1 x c (S.sub I3.ok x c e), fun p hp => ?_⟩
      rcases List.mem_append.mp hp with z | z
      · exact (f3 b hb).2.2.2.2.2 p z
      · exact absurd z (by simp)
    refine dc_loop (fun n s' => ∃ (i : Nat) (σ' : St) (H' : Hp), Inv (lcCx X N' scope s3.heap.objs.size s3 (upd H2 D o0) fp pins) [] σ' H' s' ∧ tn i s'.heap ∧ (∀ b ∈ fp, H' b = none) ∧ W i n σ' H') ?_ m0
      ⟨0, capS cap σ, _, I4, T.keep _ _ _ st3 fun b _ o e => old b o e, fun b hb => (f3 b hb).1, w0⟩
    rintro n s5 ⟨i, σ', H', I5, t5, fr5, w5⟩
    rcases turn i n σ' H' w5 with ⟨stop, q⟩ | ⟨go, N, hN, step⟩
    · refine thn (T.done (lcCx X N' scope s3.heap.objs.size s3 (upd H2 D o0) fp pins) rfl rfl rfl hc i _ s5 σ' H' _ I5 (stat fr5) t5 stop) fun r s6 ⟨hr, I6⟩ => .inl ⟨hr, ?_⟩
      have nC : H' s3.heap.objs.size = none := I6.free
      obtain ⟨m, hn, _⟩ := id I6.loc
      refine ⟨m, hn, fun h' hs' => ?_⟩
      have up : ∀ b o, b ≠ s3.heap.objs.size → s6.heap.get? b = some o → h'.get? b = some o := fun b o hb e => hs'.extBut b o hb e
      have ltC : ∀ b o, s3.heap.get? b = some o → b ≠ s3.heap.objs.size := fun b o e => Nat.ne_of_lt (Heap.lt_size e)
      have u6 : Un (frs X.stack) fp (upd H2 D o0) H' s3.heap s6.heap := I6.base
      have u7 : Un (frs X.stack) fp (upd H2 D o0) H' s3.heap h' := by
        refine ⟨fun b o e n hb hx => up b o (ltC b o e) (u6.keep b o e n hb hx), fun b o e n hb hx => ?_, u6.free, fun b o e hx => ?_, u6.tups, u6.frzs, u6.tbls⟩
        · obtain ⟨sl, q⟩ := u6.slot b o e n hb hx
          exact ⟨sl, up b _ (ltC b o e) q⟩
        · obtain ⟨o', q⟩ := u6.there b o e hx
          exact ⟨o', up b o' (ltC b o e) q⟩
      have ok7 : HOk X.prog X.w H' h' := fun b u e => by
        refine (I6.hok b u e).stay (fun c v hc' z => up c v ?_ z) (fun c z => z) fun c xs z => z
        rcases hc' with rfl | z
        · exact ne_of_none e nC
        · exact ne_of_none z nC
      have os6 : s6.os = s3.os := I6.os
      have ba6 := I6.bare
      obtain ⟨hh, gg, dd, tt, oo⟩ := s6
      subst os6
      have z7 := I3.call (s := s3) (h' := h') (g' := gg) (d' := dd) (t' := tt) (ch := fp) u7 ok7 ba6 fun b hb => ⟨(f3 b hb).2.2.2.1, (f3 b hb).2.1, (f3 b hb).2.2.2.2.1, (f3 b hb).2.2.2.2.2⟩
      exact ⟨.ref D, H', z7, rfl, q⟩
    · refine thn (T.item (lcCx X N' scope s3.heap.objs.size s3 (upd H2 D o0) fp pins) rfl rfl rfl hc i _ s5 σ' H' _ I5 (stat fr5) t5 go) fun r s6 ⟨u, hr, h6⟩ => .inr ⟨u, hr, ?_⟩
      refine thn h6 fun _ s7 ⟨x, H7, I7, r7, y7, t7, fr7⟩ => ?_
      have I7' := I7.pinned (stat fr7) (T.obj _ _ t7)
      have back : ∀ {σx : St} {Hx : Hp} {sx : Shared}, Inv (lcCx X N' scope s3.heap.objs.size s3 (upd H2 D o0) fp pins) ([] ++ pinsAt fp s7.heap) σx Hx sx → (∀ b ∈ fp, ∀ o, s7.heap.get? b = some o → sx.heap.get? b = some o) ∧ (∀ b ∈ fp, Hx b = none) := fun {σx Hx sx} Ix => by
        refine ⟨fun b hb o e => (Ix.pin (b, o) (List.mem_append_right _ (List.mem_append_right _ (mem_pinsAt hb e)))).1, fun b hb => ?_⟩
        obtain ⟨o, e, _⟩ := T.obj _ _ t7 b hb
        exact (Ix.pin (b, o) (List.mem_append_right _ (List.mem_append_right _ (mem_pinsAt hb e)))).2.1
      refine thn (hg _ _ _ _ _ _ s7 σ' H7 x u _ I7' r7 (step x H7 y7)) fun _ s8 ⟨σ8, H8, I8, q8⟩ => ?_
      refine thn (hif _ _ _ _ _ _ s8 σ8 H8 _ I8 q8) fun b s9 ⟨H9, I9, q9⟩ => ?_
      rcases q9 with ⟨rfl, q9⟩ | ⟨rfl, n9⟩
      · refine .inl ⟨rfl, thn (hk _ _ _ _ _ _ s9 σ8 H9 _ I9 q9) fun uk s10 ⟨y, H10, I10, ry, q10⟩ => thn (hv _ _ _ _ _ _ s10 σ8 H10 _ I10 q10) fun uv s11 ⟨v, H11, I11, rv, H12, g12, n12⟩ => ?_⟩
        obtain ⟨m', hm, w12⟩ := hN _ _ n12
        refine d_dictSet (X := lcCx X N' scope s3.heap.objs.size s3 (upd H2 D o0) fp pins) hu I11 g12 ry rv fun s12 I12 => ?_
        obtain ⟨b1, b2⟩ := back I12
        exact ⟨m', hm, i + 1, σ8, H12, I12.pins_of fun p hp => absurd hp (by simp), T.keep _ _ _ t7 b1, b2, w12⟩
      · obtain ⟨m', hm, w9⟩ := hN _ _ n9
        obtain ⟨b1, b2⟩ := back I9
        exact .inr ⟨rfl, m', hm, i + 1, σ8, H9, I9.pins_of fun p hp => absurd hp (by simp), T.keep _ _ _ t7 b1, b2, w9⟩
  exact codeAny_compStart_dict (loop _ rfl) (T.self _ 0 _ _ _ (T.keep _ _ _ st3 fun b _ o e => old b o e) (loop _ rfl))
end
end L2

end

section
set_option Elab.async false
set_option linter.all false
set_option maxRecDepth 100000
set_option maxHeartbeats 4000000
namespace L2
open PySem PySem.Spec PyProof.Rows
def dcF (d : Nat) (g : GF) (c : TF) (fk : KF) (e : EF) : List CD → Ga → Sto → Option Sto
  | [], _, M => some M
  | x :: xs, γ, M => (g x γ M).bind fun a => (c a.1 a.2).bind fun b => if b.1 = true then (fk a.1 b.2).bind fun k => (e a.1 k.2).bind fun v => (setD v.2 (.c d) k.1 v.1).bind fun M' => dcF d g c fk e xs a.1 M' else dcF d g c fk e xs a.1 b.2
def fDc (c0 : Cell) (cap : List (Option Nat)) (f : AF) (g : GF) (c : TF) (fk : KF) (e : EF) : EF := fun γ M => (f γ M).bind fun r => (dcF r.2.length g c fk e r.1 (capG cap γ) (r.2 ++ [c0])).bind fun M' => some (.c r.2.length, M')
section
variable {K : PySem.W.Frag} {tg : TG} {tt : TT} {hg : GF} {ft : TF} {fa : AF}
theorem se_dc {o0 : HO} {c0 : Cell} (h0 : (o0 = .dT [] ∧ c0 = .dt []) ∨ (o0 = .dK [] ∧ c0 = .dk [])) {wi : TI} {cap : List (Option Nat)} {tk tv : TE} {fk : KF} {fe : EF} (i : SI K wi fa) (a : SG K tg hg) (c : STt K tt ft) (b : SK K tk fk) (e : SE K tv fe) :
    SE K (tDc o0 cap wi tg tt tk tv) (fDc c0 cap fa hg ft fk fe) := by
  intro γ M x M' hh W H σ Q G R k
  obtain ⟨⟨ys, M1⟩, h1, hh⟩ := bindE hh
  obtain ⟨M9, h9, hh⟩ := bindE hh
  cases hh
  refine i _ _ _ _ h1 W H σ _ G R fun J W1 H1 e1 G1 gv => fun D hD => ?_
  have G2 : Good K (W1.more D) (M1 ++ [c0]) (upd H1 D o0) := G1.new hD (by rcases h0 with ⟨rfl, rfl⟩ | ⟨rfl, rfl⟩ <;> exact .nil)
  have e2 := W1.ext_more D
  have rD : RepV K (W1.more D) (.c M1.length) (.ref D) := G1.newV
  refine ⟨fun j m σ' H' => ∃ γ' M3 W3, j ≤ ys.length ∧ m = ys.length - j ∧ (W1.more D).Ext W3 ∧ Good K W3 M3 H' ∧ RepS K W3 γ' σ' ∧ dcF M1.length hg ft fk fe (ys.drop j) γ' M3 = some M', ⟨_, capG cap γ, _, _, Nat.zero_le _, rfl, .refl _, G2, capRep ((R.up e1).up e2) cap, h9⟩, ?_⟩
  rintro j m σ' H' ⟨γ', M3, W3, hj, rfl, e3, G3, R3, h3⟩
  obtain ⟨gv1, gv2⟩ := gv W3 M3 H' (e2.trans e3) G3
  by_cases hlt : j < ys.length
  · obtain ⟨go, yl⟩ := gv1 j ys[j] (List.getElem?_eq_getElem hlt)
    rw [List.drop_eq_getElem_cons hlt] at h3
    refine .inr ⟨go, fun σ4 H4 => ∃ γ4 M4 W4, W3.Ext W4 ∧ Good K W4 M4 H4 ∧ RepS K W4 γ4 σ4 ∧ dcF M1.length hg ft fk fe (ys.drop (j + 1)) γ4 M4 = some M', ?_, fun y H4 hy => ?_⟩
    · rintro σ4 H4 ⟨γ4, M4, W4, e4, G4, R4, h4⟩
      exact ⟨_, by omega, γ4, M4, W4, hlt, rfl, e3.trans e4, G4, R4, h4⟩
    · obtain ⟨W8, e8, G8, ry⟩ := yl y H4 hy
      obtain ⟨⟨γ5, M5⟩, h5, h3⟩ := bindE (show (hg ys[j] γ' M3).bind _ = _ from h3)
      obtain ⟨⟨b6, M6⟩, h6, h3⟩ := bindE h3
      refine a _ _ _ _ _ h5 W8 _ σ' y _ G8 (R3.up e8) ry fun σ5 W5 H5 e5 G5 R5 => ?_
      refine c _ _ _ _ h6 W5 H5 σ5 _ G5 R5 fun W6 H6 e6 G6 => ?_
      have e36 := (e8.trans e5).trans e6
      cases b6 with
      | true =>
        rw [if_pos rfl] at h3
        obtain ⟨⟨ky, M7⟩, h7, h3⟩ := bindE h3
        obtain ⟨⟨z, M10⟩, h10, h3⟩ := bindE h3
        obtain ⟨M11, h11, h3⟩ := bindE h3
        refine .inl ⟨rfl, b _ _ _ _ h7 W6 H6 σ5 _ G6 (R5.up e6) fun yv W7 H7 e7 G7 r7 => e _ _ _ _ h10 W7 H7 σ5 _ G7 (R5.up (e6.trans e7)) fun v W10 H10 e10 G10 r10 => ?_⟩
        have e310 := (e36.trans e7).trans e10
        obtain ⟨p, H11, ep, g11, G11⟩ := setD_rep G10 h11 (rD.up (e3.trans e310)) (r7.up e10) r10
        cases ep
        exact ⟨H11, g11, γ5, M11, W10, e310, G11, R5.up ((e6.trans e7).trans e10), h3⟩
      | false =>
        rw [if_neg Bool.false_ne_true] at h3
        exact .inr ⟨rfl, γ5, M6, W6, e36, G6, R5.up e6, h3⟩
  · have ej : j = ys.length := by omega
    subst ej
    rw [List.drop_length] at h3
    cases h3
    exact .inl ⟨gv2, k _ W3 H' ((e1.trans e2).trans e3) G3 (rD.up e3)⟩
variable {ι : Type} {X : ι → Cx} {N' : List Str} {cap : List (Option Nat)} {scope : Scope} {tg' iter kx vx : Expr} {ifs : List Expr} {gf : GF} {fk : KF} {f : EF} {pos : Pos}
theorem me_dcT (hu : ∀ i, (X i).A.units < cLine) (hc : ∀ i, (X i).calm = true) (S : ∀ i, LcSc (X i) N' cap scope) (x : MI K X tg' iter fa) (y : MG K (lcFam X N' scope) tg' gf) (z : MF K (lcFam X N' scope) ifs ft) (w : MK K (lcFam X N' scope) kx fk) (q : ME K (lcFam X N' scope) vx f) (hs : ∀ (env : Env) (x : Value), foldedSetIterable iter env x = pure x := by intro _ _; rfl) :
    ME K X (.DictComp kx vx [⟨tg', iter, ifs, 0⟩] scope pos) (fDc (.dt []) cap fa gf ft fk f) := by
  obtain ⟨t, x1, x2⟩ := x.ex; obtain ⟨u, y1, y2⟩ := y.ex; obtain ⟨v, z1, z2⟩ := z.ex; obtain ⟨o, w1, w2⟩ := w.ex; obtain ⟨p, q1, q2⟩ := q.ex
  exact ⟨_, fun i => pe_dc (.inl rfl) (hu i) (hc i) (S i) (x1 i) (fun C s H fp pn => y1 (i, C, s, H, fp, pn)) (fun C s H fp pn => z1 (i, C, s, H, fp, pn)) (fun C s H fp pn => w1 (i, C, s, H, fp, pn)) (fun C s H fp pn => q1 (i, C, s, H, fp, pn)) (hs _), se_dc (.inl ⟨rfl, rfl⟩) x2 y2 z2 w2 q2⟩
end
end L2

end

section
set_option Elab.async false
set_option linter.all false
set_option maxRecDepth 100000
set_option maxHeartbeats 4000000
namespace L2
open PySem PySem.Spec PyProof.Rows
end L2

end

section
set_option Elab.async false
set_option linter.all false
namespace L2
open PySem PySem.Spec PyProof.Rows
theorem Room.u1 {k : Nat} {A : Around} (r : Room k A) : A.units + 1 < cLine := by have := r.un; omega
theorem Room.u0 {k : Nat} {A : Around} (r : Room k A) : A.units < cLine := by have := r.un; omega
end L2

end

section
set_option Elab.async false
set_option linter.all false
set_option maxRecDepth 100000
set_option maxHeartbeats 4000000
namespace L2
open PySem PySem.Spec PyProof.Rows
abbrev IPF := Ga → Sto → Option ((List CD × (Sto → Prop)) × Sto)
def GivesP (K : PySem.W.Frag) (J : It) (P : Sto → Prop) (xs : List CD) (W : Wd) : Prop := ∀ W' M' H', W.Ext W' → Good K W' M' H' → P M' →
  (∀ i x, xs[i]? = some x → J.go i H' ∧ ∀ y H'', J.yld i H' y H'' → ∃ W'', W'.Ext W'' ∧ Good K W'' M' H'' ∧ RepV K W'' x y) ∧ J.stop xs.length H'
def SIP (K : PySem.W.Frag) (wi : TI) (f : IPF) : Prop := ∀ γ M xs P M', f γ M = some ((xs, P), M') → ∀ (W : Wd) (H : Hp) (σ : St) (R : It → Hp → Prop), Good K W M H → RepS K W γ σ → (∀ J W' H', W.Ext W' → Good K W' M' H' → GivesP K J P xs W' → R J H') → wi σ H R
def walked (M : Sto) : CD → Option (List CD × (Sto → Prop))
  | .d x => (itemsD x).bind fun ds => some (ds.map .d, fun _ => True)
  | .c i => match M[i]? with
    | some (.lst xs) => some (xs, fun M' => M'[i]? = some (.lst xs))
    | _ => none
def fItemsP (f : EF) : IPF := fun γ M => (f γ M).bind fun r => (walked r.2 r.1).bind fun p => some (p, r.2)
open Classical in
noncomputable def forP (P : Sto → Prop) (g : GF) (b : SF) : List CD → Ga → Sto → Option (Out × Sto)
  | [], γ, M => if P M then some (.nx γ, M) else none
  | x :: xs, γ, M => if P M then (g x γ M).bind fun r => (b r.1 r.2).bind fun q => match q.1 with
    | .nx γ' => forP P g b xs γ' q.2
    | .ct γ' => forP P g b xs γ' q.2
    | .bk γ' => some (.nx γ', q.2)
    | .rt x => some (.rt x, q.2) else none
noncomputable def sForP (f : IPF) (g : GF) (b : SF) : SF := fun γ M => (f γ M).bind fun r => forP r.1.2 g b r.1.1 γ r.2
open Classical in
noncomputable def forE (P : Sto → Prop) (g : GsF) (b : SF) : Nat → List CD → Ga → Sto → Option (Out × Sto)
  | _, [], γ, M => if P M then some (.nx γ, M) else none
  | n, x :: xs, γ, M => if P M then (g [.d (.int n), x] γ M).bind fun r => (b r.1 r.2).bind fun q => match q.1 with
    | .nx γ' => forE P g b (n + 1) xs γ' q.2
    | .ct γ' => forE P g b (n + 1) xs γ' q.2
    | .bk γ' => some (.nx γ', q.2)
    | .rt x => some (.rt x, q.2) else none
noncomputable def sForE (f : AF) (g : GsF) (b : SF) : SF := fun γ M => (f γ M).bind fun r => match r.1 with
  | [x] => (walked r.2 x).bind fun p => forE p.2 g b 0 p.1 γ r.2
  | _ => none
section
variable {K : PySem.W.Frag} {ta : TE} {f : EF} {fp : IPF} {tg : TG} {hg : GF} {t : TS} {p : SF}
theorem walked_rep {W : Wd} {M : Sto} {H : Hp} {x : CD} {v : V} {xs : List CD} {P : Sto → Prop} (h : walked M x = some (xs, P)) (G : Good K W M H) (r : RepV K W x v) :
    ∃ a, v = .ref a ∧ ((∃ vs, SqL K H a vs) ∧ (∀ W' M' H', W.Ext W' → Good K W' M' H' → P M' → ∃ vs, SqL K H' a vs ∧ RepVs K W' xs vs) ∨ (∃ vs, SqT K H a vs) ∧ ∀ W' M' H', W.Ext W' → Good K W' M' H' → P M' → ∃ vs, SqT K H' a vs ∧ RepVs K W' xs vs) := by
  unfold walked at h
  split at h
  · rename_i y
    obtain ⟨ds, h2, h⟩ := bindE h
    cases h
    obtain ⟨a, vs, rfl, hs, hr⟩ := rep_seq (show Rep K W.F y v from r) h2
    refine ⟨a, rfl, ?_⟩
    rcases hs with hs | hs
    · exact .inl ⟨⟨vs, G.fh.seq hs⟩, fun W' M' H' e G' _ => ⟨vs, G'.fh.seq (e.ff.seq hs), RepVs.up (repVs_of hr) e⟩⟩
    · exact .inr ⟨⟨vs, G.fh.seqT hs⟩, fun W' M' H' e G' _ => ⟨vs, G'.fh.seqT (e.ff.seqT hs), RepVs.up (repVs_of hr) e⟩⟩
  · rename_i i
    split at h
    · rename_i ys hy
      cases h
      obtain ⟨vs, hv, hr⟩ := G.lstAt hy
      refine ⟨_, r.2, .inl ⟨⟨vs, SqL.of hv⟩, fun W' M' H' e G' hP => ?_⟩⟩
      obtain ⟨us, hu, hr'⟩ := G'.lstAt hP
      rw [e.al i r.1] at hu
      exact ⟨us, SqL.of hu, hr'⟩
    · cases h
theorem si_seqP (a : SE K ta f) : SIP K (iSeq K ta) (fItemsP f) := by
  intro γ M xs P M' hh W H σ R G Rs k
  obtain ⟨⟨y, M1⟩, h1, hh⟩ := bindE hh
  obtain ⟨q, h2, hh⟩ := bindE hh
  cases hh
  refine a _ _ _ _ h1 W H σ _ G Rs fun v W1 H1 e1 G1 r1 => ?_
  obtain ⟨l, rfl, hw⟩ := walked_rep h2 G1 r1
  refine ⟨l, rfl, ?_⟩
  rcases hw with ⟨⟨vs, hv⟩, hw⟩ | ⟨⟨vs, hv⟩, hw⟩
  · refine .inl ⟨vs, hv, k _ W1 H1 e1 G1 fun W2 M2 H2 e2 G2 hP => ?_⟩
    obtain ⟨us, hu, hr⟩ := hw W2 M2 H2 e2 G2 hP
    refine ⟨fun i x hx => ?_, us, hu, by rw [Paired.len hr]; exact Nat.le_refl _⟩
    obtain ⟨u, hu', ru⟩ := Paired.get hr hx
    refine ⟨⟨us, u, hu, hu'⟩, fun y H3 hy => ⟨W2, .refl _, by rw [hy.1]; exact G2, ?_⟩⟩
    have := hy.2 us hu
    rw [hu'] at this; cases this
    exact ru
  · refine .inr ⟨vs, hv, k _ W1 H1 e1 G1 fun W2 M2 H2 e2 G2 hP => ?_⟩
    obtain ⟨us, hu, hr⟩ := hw W2 M2 H2 e2 G2 hP
    refine ⟨fun i x hx => ?_, us, hu, by rw [Paired.len hr]; exact Nat.le_refl _⟩
    obtain ⟨u, hu', ru⟩ := Paired.get hr hx
    refine ⟨⟨us, u, hu, hu'⟩, fun y H3 hy => ⟨W2, .refl _, by rw [hy.1]; exact G2, ?_⟩⟩
    have := hy.2 us hu
    rw [hu'] at this; cases this
    exact ru
theorem ss_forP {wi : TI} (i : SIP K wi fp) (a : SG K tg hg) (b : SS K t p) : SS K (tFor wi tg t) (sForP fp hg p) := by
  intro γ M o M' hh W H σ D G R k
  obtain ⟨⟨⟨xs, P⟩, M1⟩, h1, hh⟩ := bindE hh
  have hh : forP P hg p xs γ M1 = some (o, M') := hh
  refine i _ _ _ _ _ h1 W H σ _ G R fun J W1 H1 e1 G1 gv => ?_
  refine ⟨fun j m σ' H' => ∃ γ' M2 W2, j ≤ xs.length ∧ m = xs.length - j ∧ W1.Ext W2 ∧ Good K W2 M2 H' ∧ RepS K W2 γ' σ' ∧ forP P hg p (xs.drop j) γ' M2 = some (o, M'), ⟨_, γ, M1, W1, Nat.zero_le _, rfl, .refl _, G1, R.up e1, hh⟩, ?_⟩
  rintro j m σ' H' ⟨γ', M2, W2, hj, rfl, e2, G2, R2, h2⟩
  have hP : P M2 := by
    by_cases hP : P M2
    · exact hP
    · cases hd : xs.drop j <;> rw [hd] at h2 <;> unfold forP at h2 <;> rw [if_neg hP] at h2 <;> cases h2
  obtain ⟨gv1, gv2⟩ := gv W2 M2 H' e2 G2 hP
  by_cases hlt : j < xs.length
  · obtain ⟨go, yl⟩ := gv1 j xs[j] (List.getElem?_eq_getElem hlt)
    rw [List.drop_eq_getElem_cons hlt] at h2
    unfold forP at h2
    rw [if_pos hP] at h2
    refine .inr ⟨go, fun σ3 H3 => ∃ γ3 M3 W3, W2.Ext W3 ∧ Good K W3 M3 H3 ∧ RepS K W3 γ3 σ3 ∧ forP P hg p (xs.drop (j + 1)) γ3 M3 = some (o, M'), ?_, fun y H3 hy => ?_⟩
    · rintro σ3 H3 ⟨γ3, M3, W3, e3, G3, R3, h3⟩
      exact ⟨_, by omega, γ3, M3, W3, hlt, rfl, e2.trans e3, G3, R3, h3⟩
    · obtain ⟨W8, e8, G8, ry⟩ := yl y H3 hy
      obtain ⟨⟨γ4, M4⟩, h4, h2⟩ := bindE h2
      obtain ⟨⟨o5, M5⟩, h5, h2⟩ := bindE h2
      refine a _ _ _ _ _ h4 W8 _ σ' y _ G8 (R2.up e8) ry fun σ4 W4 H4 e4 G4 R4 => ?_
      refine b _ _ _ _ h5 W4 H4 σ4 _ G4 R4 fun W5 H5 e5 G5 => ?_
      have e25 := (e8.trans e4).trans e5
      cases o5 with
      | nx γ5 => exact fun σ5 R5 => ⟨γ5, M5, W5, e25, G5, R5, h2⟩
      | ct γ5 => exact fun σ5 R5 => ⟨γ5, M5, W5, e25, G5, R5, h2⟩
      | bk γ5 => cases h2; exact k W5 H5 ((e1.trans e2).trans e25) G5
      | rt x => cases h2; exact k W5 H5 ((e1.trans e2).trans e25) G5
  · have e : j = xs.length := by omega
    subst e
    rw [List.drop_length] at h2
    unfold forP at h2
    rw [if_pos hP] at h2
    cases h2
    exact .inl ⟨gv2, k W2 H' (e1.trans e2) G2 σ' R2⟩
theorem ss_forE {tA : TA} {fa : AF} {ts : TGs} {gs : GsF} (i : SA K tA fa) (a : SGs K ts gs) (b : SS K t p) : SS K (tFor (iEnum K tA) (gTup K 2 ts) t) (sForE fa gs p) := by
  intro γ M o M' hh W H σ D G R k
  obtain ⟨⟨ys, M1⟩, h1, hh⟩ := bindE hh
  refine i _ _ _ _ h1 W H σ _ G R fun vs W1 H1 e1 G1 r1 => ?_
  revert hh
  dsimp only
  split
  · rename_i y
    intro hh
    obtain ⟨⟨xs, P⟩, h2, hh⟩ := bindE hh
    have hh : forE P gs p 0 xs γ M1 = some (o, M') := hh
    cases r1 with
    | cons r r' =>
      cases r'
      obtain ⟨l, rfl, hw⟩ := walked_rep h2 G1 r
      have main : ∀ Sq : Hp → List V → Prop, (∀ W' M' H', W1.Ext W' → Good K W' M' H' → P M' → ∃ vs, Sq H' vs ∧ RepVs K W' xs vs) →
          ∃ W : Nat → Nat → St → Hp → Prop, (∃ m, W 0 m σ H1) ∧ ∀ i m σ H, W i m σ H → ((Ite Sq).stop i H ∧ D.nx σ H) ∨ ((Ite Sq).go i H ∧ ∃ N : St → Hp → Prop, (∀ σ' H', N σ' H' → ∃ m', m' < m ∧ W (i + 1) m' σ' H') ∧ ∀ x H', (Ite Sq).yld i H x H' → gTup K 2 ts x σ H' fun σ2 H2 => t { D with nx := N, ct := N, bk := D.nx } σ2 H2) := by
        intro Sq hw
        refine ⟨fun j m σ' H' => ∃ γ' M2 W2, j ≤ xs.length ∧ m = xs.length - j ∧ W1.Ext W2 ∧ Good K W2 M2 H' ∧ RepS K W2 γ' σ' ∧ forE P gs p j (xs.drop j) γ' M2 = some (o, M'), ⟨_, γ, M1, W1, Nat.zero_le _, rfl, .refl _, G1, R.up e1, hh⟩, ?_⟩
        rintro j m σ' H' ⟨γ', M2, W2, hj, rfl, e2, G2, R2, h2⟩
        have hP : P M2 := by
          by_cases hP : P M2
          · exact hP
          · cases hd : xs.drop j <;> rw [hd] at h2 <;> unfold forE at h2 <;> rw [if_neg hP] at h2 <;> cases h2
        obtain ⟨us, hu, hr⟩ := hw W2 M2 H' e2 G2 hP
        by_cases hlt : j < xs.length
        · obtain ⟨u, hu', ru⟩ := Paired.get hr (List.getElem?_eq_getElem hlt)
          rw [List.drop_eq_getElem_cons hlt] at h2
          unfold forE at h2
          rw [if_pos hP] at h2
          refine .inr ⟨⟨us, u, hu, hu'⟩, fun σ3 H3 => ∃ γ3 M3 W3, W2.Ext W3 ∧ Good K W3 M3 H3 ∧ RepS K W3 γ3 σ3 ∧ forE P gs p (j + 1) (xs.drop (j + 1)) γ3 M3 = some (o, M'), ?_, fun y H3 hy => ?_⟩
          · rintro σ3 H3 ⟨γ3, M3, W3, e3, G3, R3, h3⟩
            exact ⟨_, by omega, γ3, M3, W3, hlt, rfl, e2.trans e3, G3, R3, h3⟩
          · obtain ⟨q, x', hn, rfl, rfl, hx'⟩ := hy
            have := hx' us hu
            rw [hu'] at this; cases this
            have G3 := G2.extra (o := .tup [.int j, u]) hn
            obtain ⟨⟨γ4, M4⟩, h4, h2⟩ := bindE h2
            obtain ⟨⟨o5, M5⟩, h5, h2⟩ := bindE h2
            refine ⟨q, _, rfl, SqT.of upd_same, rfl, a _ _ _ _ _ h4 W2 _ σ' _ _ G3 R2 (.cons (show RepV K W2 (.d (.int j)) (.int j) from rfl) (.cons ru .nil)) fun σ4 W4 H4 e4 G4 R4 => ?_⟩
            refine b _ _ _ _ h5 W4 H4 σ4 _ G4 R4 fun W5 H5 e5 G5 => ?_
            have e25 := e4.trans e5
            cases o5 with
            | nx γ5 => exact fun σ5 R5 => ⟨γ5, M5, W5, e25, G5, R5, h2⟩
            | ct γ5 => exact fun σ5 R5 => ⟨γ5, M5, W5, e25, G5, R5, h2⟩
            | bk γ5 => cases h2; exact k W5 H5 ((e1.trans e2).trans e25) G5
            | rt x => cases h2; exact k W5 H5 ((e1.trans e2).trans e25) G5
        · have e : j = xs.length := by omega
          subst e
          rw [List.drop_length] at h2
          unfold forE at h2
          rw [if_pos hP] at h2
          cases h2
          exact .inl ⟨⟨us, hu, (Paired.len hr).symm⟩, k W2 H' (e1.trans e2) G2 σ' R2⟩
      refine ⟨l, rfl, ?_⟩
      rcases hw with ⟨⟨vs, hv⟩, hw⟩ | ⟨⟨vs, hv⟩, hw⟩
      · exact .inl ⟨vs, hv, main _ hw⟩
      · exact .inr ⟨vs, hv, main _ hw⟩
  · intro hh; cases hh
end
section
variable {ι : Type} {K : PySem.W.Frag} {X : ι → Cx} {tg iter a : Expr} {es sts' : List Expr} {sts : List Stmt} {f : EF} {fa : AF} {gf : GF} {gs : GsF} {sf : SF} {pos : Pos}
theorem ms_forP (hp : ∀ i, PassesOwn (model (X i).prog (X i).w) (X i).A (X i).env (X i).xe) (hc : ∀ i, (X i).calm = true) (hK : ∀ i, (X i).K = K) (x : ME K X iter f) (y : MG K X tg gf) (z : ML K X sts sf) (hs : ∀ (env : Env) (x : Value), foldedSetIterable iter env x = pure x := by intro _ _; rfl) : MS K X (.For tg iter sts [] pos) (sForP (fItemsP f) gf sf) := by
  obtain ⟨t, x1, x2⟩ := x.ex; obtain ⟨u, y1, y2⟩ := y.ex; obtain ⟨v, z1, z2⟩ := z.ex
  exact ⟨_, fun i => ps_for (hp i) (hc i) (pi_seqK (hK i) (x1 i)) (y1 i) (z1 i) (hs _), ss_forP (si_seqP x2) y2 z2⟩
theorem ms_forE {k : Nat} {tpos p cpos : Pos} (hp : ∀ i, PassesOwn (model (X i).prog (X i).w) (X i).A (X i).env (X i).xe) (hc : ∀ i, (X i).calm = true) (hK : ∀ i, (X i).K = K) (hm : ∀ i, (X i).mg "enumerate" = none) (x : MA K X [a] fa) (y : MGs K X es gs) (z : ML K X sts sf) (hg : ∀ i, Gl (X i) "enumerate" := by intro _; rfl)
    (hn : ∀ env : Env, (assignEach es env).length = 2 := by intro _; rfl) (hst : ∀ env : Env, (assignEach es env).findIdx? (·.1) = none := by intro _; rfl) (hs : ∀ (env : Env) (x : Value), foldedSetIterable (.Call (.Name "enumerate" p) [a] [] cpos) env x = pure x := by intro _ _; rfl) : MS K X (.For (.Tuple es k tpos) (.Call (.Name "enumerate" p) [a] [] cpos) sts [] pos) (sForE fa gs sf) := by
  obtain ⟨t, x1, x2⟩ := x.ex; obtain ⟨u, y1, y2⟩ := y.ex; obtain ⟨v, z1, z2⟩ := z.ex
  exact ⟨_, fun i => ps_for (hp i) (hc i) (by have := pi_enum (elts := es) (x1 := k) (tpos := tpos) (p := p) (pos := cpos) (hg i) (hm i) (x1 i) (x.st.1 _); rw [hK i] at this; exact this) (pg_tupK (hK i) (hc i) (y1 i) (hn _) (hst _)) (z1 i) (hs _), ss_forE x2 y2 z2⟩
end
end L2

end

section
set_option Elab.async false
set_option linter.all false
set_option maxRecDepth 100000
set_option maxHeartbeats 4000000
namespace L2
open PySem PySem.Spec PyProof.Rows
section
variable {K : PySem.W.Frag}
def fIsiC (T : String) (f : EF) : EF := fun γ M => (f γ M).bind fun r => (snap 5 r.2 r.1).bind fun d => some (.d (.bool (isiD T d)), r.2)
def fIsi2C (T U : String) (f : EF) : EF := fun γ M => (f γ M).bind fun r => (snap 5 r.2 r.1).bind fun d => some (.d (.bool (isiD T d || isiD U d)), r.2)
theorem se_isiC {T : String} {ta : TE} {f : EF} (hT : T ∈ asked) (a : SE K ta f) : SE K (tCB (rIsi K) (tCons ta (tCons (tC (.ty T)) tNil))) (fIsiC T f) := by
  intro γ M x M' hh W H σ Q G R k
  obtain ⟨⟨y, M1⟩, h1, hh⟩ := bindE hh
  obtain ⟨d, h2, hh⟩ := bindE hh
  cases hh
  refine a _ _ _ _ h1 W H σ _ G R fun v W1 H1 e1 G1 r1 => ?_
  exact ⟨v, T, d, rfl, hT, snap_rep G1 5 y d v h2 r1, k _ W1 H1 e1 G1 rfl⟩
theorem se_isi2C {T U : String} {ta : TE} {f : EF} (hT : T ∈ asked) (hU : U ∈ asked) (a : SE K ta f) : SE K (tCB (rIsi2 K) (tCons ta (tCons (tTup (tCons (tC (.ty T)) (tCons (tC (.ty U)) tNil))) tNil))) (fIsi2C T U f) := by
  intro γ M x M' hh W H σ Q G R k
  obtain ⟨⟨y, M1⟩, h1, hh⟩ := bindE hh
  obtain ⟨d, h2, hh⟩ := bindE hh
  cases hh
  refine a _ _ _ _ h1 W H σ _ G R fun v W1 H1 e1 G1 r1 => ?_
  refine ⟨by show 2 ≤ sizeLine; decide, fun p hp => ?_⟩
  obtain ⟨e2, G2⟩ := G1.lay (o := .tup [.ty T, .ty U]) hp
  refine ⟨v, p, [T, U], d, rfl, upd_same, fun S hS => ?_, snap_rep G2 5 y d v h2 (r1.up e2), ?_⟩
  · rcases List.mem_cons.mp hS with rfl | hS
    · exact hT
    · rw [List.mem_singleton.mp hS]; exact hU
  · have := k (.bl (isiD T d || isiD U d)) _ _ (e1.trans e2) G2 rfl
    simpa [List.any] using this
variable {ι : Type} {X : ι → Cx} {a : Expr} {f : EF} {pos : Pos}
theorem me_isiC {T : String} {y : Str} {p p' : Pos} (hK : ∀ i, (X i).K = K) (hT : T ∈ asked) (x : ME K X a f) (hs : Star a [.Name y p']) (hm : ∀ i, (X i).mg "isinstance" = none) (hmy : ∀ i, (X i).mg y = none) (hb : bootBuiltins y = some (.type T)) (hg : ∀ i, Gl (X i) "isinstance" := by intro _; rfl) (hgy : ∀ i, Gl (X i) y := by intro _; rfl)
    (hn : y ≠ "__name__" := by decide) (hd : (y == ("__debug__" : Str)) = false := by decide) : ME K X (.Call (.Name "isinstance" p) [a, .Name y p'] [] pos) (fIsiC T f) := by
  obtain ⟨t, x1, x2⟩ := x.ex
  refine ⟨_, fun i => pe_callB (kIsi (hK i)) (hg i) (hm i) boot_isinstance (pa_cons (x1 i) (pa_cons (pe_bltn (v := .ty T) (hgy i) (hmy i) hb rfl hn hd) pa_nil star_Name) (hs _)) (by decide) (by decide) (hs _) (plain_cons star_Name plain_nil), se_isiC hT x2⟩
theorem me_isi2C {T U : String} {y z : Str} {p p' p'' p3 : Pos} {k : Nat} (hK : ∀ i, (X i).K = K) (hT : T ∈ asked) (hU : U ∈ asked) (x : ME K X a f) (hs : Star a [.Tuple [.Name y p', .Name z p''] k p3]) (hm : ∀ i, (X i).mg "isinstance" = none) (hmy : ∀ i, (X i).mg y = none) (hmz : ∀ i, (X i).mg z = none)
    (hb : bootBuiltins y = some (.type T)) (hbz : bootBuiltins z = some (.type U)) (hg : ∀ i, Gl (X i) "isinstance" := by intro _; rfl) (hgy : ∀ i, Gl (X i) y := by intro _; rfl) (hgz : ∀ i, Gl (X i) z := by intro _; rfl)
    (hn : y ≠ "__name__" := by decide) (hd : (y == ("__debug__" : Str)) = false := by decide) (hn' : z ≠ "__name__" := by decide) (hd' : (z == ("__debug__" : Str)) = false := by decide) : ME K X (.Call (.Name "isinstance" p) [a, .Tuple [.Name y p', .Name z p''] k p3] [] pos) (fIsi2C T U f) := by
  obtain ⟨t, x1, x2⟩ := x.ex
  refine ⟨_, fun i => pe_callB (kIsi2 (hK i)) (hg i) (hm i) boot_isinstance (pa_cons (x1 i) (pa_cons (pe_tup (pa_cons (pe_bltn (v := .ty T) (hgy i) (hmy i) hb rfl hn hd) (pa_cons (pe_bltn (v := .ty U) (hgz i) (hmz i) hbz rfl hn' hd') pa_nil star_Name) star_Name)) pa_nil star_Tuple) (hs _)) (by decide) (by decide) (hs _) (plain_cons star_Tuple plain_nil), se_isi2C hT hU x2⟩
end
end L2

end

section
set_option Elab.async false
set_option linter.all false
set_option maxRecDepth 100000
set_option maxHeartbeats 4000000
namespace L2
open PySem PySem.Spec PyProof.Rows
end L2

end

section
set_option Elab.async false
set_option linter.all false
set_option maxRecDepth 100000
set_option maxHeartbeats 4000000
namespace L2
open PySem PySem.Spec PyProof.Rows
end L2

end

section
set_option Elab.async false
set_option linter.all false
set_option maxRecDepth 100000
set_option maxHeartbeats 4000000
namespace PySem
open Sem (wp)
theorem l2_keys_miss {prog : Program} {w : World} {A : Around} {E : Value → Shared → Prop} {s : Shared} {a : Addr} {xs : Array Value} {k : Nat} {sl : Array (Option Value)} {name : Str} {Q : Option Value → Shared → Prop}
    (hx : s.heap.get? a = some { cls := .type "list", dict := none, data := .seq xs k, slots := sl }) (hmiss : typeLookup (.type "list") name = pure none) (hname : (["__module__", "__name__", "__qualname__", "__doc__", "__annotations__"] : List Str).contains name = false) (hA : A.handled = none)
    (h : ∀ h' tk, (∀ b ob, s.heap.get? b = some ob → h'.get? b = some ob) → Q none { s with heap := h', toks := tk }) (hsz : name.length + 100 ≤ sizeLine) :
    wpAny (model prog w) A (getAttr? (.ref a) name) Q E s := by
  obtain ⟨hp, g, d, tk, os⟩ := s
  have hT : ∀ tk', (⟨hp, g, d, tk', os⟩ : Shared).TypeIs (.ref a) "list" := fun _ => ⟨_, hx, rfl⟩
  have f1 := sub_AttributeError
  have f3 := F.slot_list_getattribute.lookup
  have f4 := F.slot_list_getattribute.bind (.ref a)
  have f5 := am_list_getattr_none
  unfold getAttr? getAttrBy?
  repeat (any_goals (first | assumption | exact hT _ | ((with_reducible show wpAny _ _ (call (Value.builtin "list.__getattribute__") _ _) _ _ _); refine call_meets F.slot_list_getattribute (hT _) am_entry_list_getattribute (F.args_list_getattribute_2 _ _) (meets_getattribute_miss_list a xs k sl name _ hmiss hname hsz) ⟨hx, hA, fun h' tk' e hx' => ?_⟩) | wp_step))
  obtain ⟨t', u', he⟩ := hx'.there
  show wpAny _ _ (getattributeRaised _ _ _ _ _ _ _) _ _ _
  unfold getattributeRaised
  repeat (any_goals (first | assumption | wp_step))
  exact h _ _ hx'.keeps
namespace F
theorem l2_list_keys : typeLookup (.type "list") "keys" = pure none := by rw [typeLookup_type, builtinLookup_eq_fast]; kernel_rfl
theorem l2_entry_upd : entryFor table "dict.update.loop" = some Builtin.«dict.update.loop» := entryFor_of_tree (by kernel_rfl)
theorem l2_plain_upd : plainId "dict.update.loop" = true := by decide +kernel
end F
end PySem
namespace L2
open PySem PySem.Spec PyProof.Rows
def putAll (D : Addr) : List V → Hp → (Hp → Prop) → Prop
  | [], H, k => k H
  | v :: vs, H, k => ∃ q y x H', v = .ref q ∧ H q = some (.tup [y, x]) ∧ DPut H D y x H' ∧ putAll D vs H' k
section
variable {X : Cx} {pins : List (Addr × Obj)} {σ : St}
theorem DPut.other {H H' : Hp} {D b : Addr} {y v : V} {o : HO} (g : DPut H D y v H') (hb : H b = some o) (hn : ∀ kvs, o ≠ .dK kvs) (hn' : ∀ kvs, o ≠ .dT kvs) : H' b = some o := by
  rcases g with ⟨kvs, k, e, _, _, rfl⟩ | ⟨kvs, k, c, e, _, _, _, rfl⟩
  · rw [upd_ne (fun z => by rw [z, e] at hb; cases hb; exact hn _ rfl)]; exact hb
  · rw [upd_ne (fun z => by rw [z, e] at hb; cases hb; exact hn' _ rfl)]; exact hb
theorem DPut.none {H H' : Hp} {D b : Addr} {y v : V} (g : DPut H D y v H') (hb : H b = .none) : H' b = .none := by
  rcases g with ⟨kvs, k, e, _, _, rfl⟩ | ⟨kvs, k, c, e, _, _, _, rfl⟩
  · rw [upd_ne (fun z => by rw [z, e] at hb; cases hb)]; exact hb
  · rw [upd_ne (fun z => by rw [z, e] at hb; cases hb)]; exact hb
theorem pins_put {H H' : Hp} {D b : Addr} {y v : V} (g : DPut H D y v H') (f : FpOk X pins H b) : FpOk X pins H' b := ⟨g.none f.1, f.2⟩
theorem upd_loop {A : Around} {R : Result → Shared → Prop} {D it p : Addr} {vs : List V} {k : Hp → Prop} (hA : A.in1.handled = none) (hu : A.in1.units < cLine) (hR : ∀ H s, Inv X pins σ H s → k H → R (.ok (.ret .none)) s) :
    ∀ (n i : Nat) (j : Int) (tk : Tok) (H : Hp) (s : Shared), vs.length - i = n → i ≤ vs.length → Inv X pins σ H s → s.heap.IsListIter it p i → FpOk X pins H it → H p = some (.lst vs) → putAll D (vs.drop i) H k →
      codeAny (model X.prog X.w) A (.builtin "dict.update.loop" ⟨[.ref D, .ref it, .int j tk, .none], []⟩) R s := by
  intro n
  induction n with
  | zero =>
    intro i j tk H s hn hi I st f hp h
    have e : i = vs.length := by omega
    subst e
    rw [List.drop_length] at h
    obtain ⟨its, rv, pl, hz⟩ := I.list (SqL.of hp)
    refine codeAny_builtin PySem.F.l2_entry_upd ?_
    rw [Around.under_plainId PySem.F.l2_plain_upd _]
    show wpAny _ A.in1 (pyNext (.ref it) >>= _) _ _ s
    have hl := rv.length
    refine wpAny_bind (wpAny_pyNext_list_end hA st pl.isList (by simp; omega) fun h' eb => ?_)
    show wpAny _ A.in1 (Builtin.Dict.addKeywords D [] >>= fun _ => ret Value.none) _ _ _
    refine wpAny_bind (wpAny_pure (wpAny_pure (hR H _ (I.turned (t' := s.toks) (fun b o hb e => eb b o hb e) f.1 f.2.1 f.2.2.2.1 f.2.2.2.2.1 f.2.2.2.2.2) h)))
  | succ n ih =>
    intro i j tk H s hn hi I st f hp h
    have hlt : i < vs.length := by omega
    rw [List.drop_eq_getElem_cons hlt] at h
    obtain ⟨q, y, x, H', ev, hq, g, h⟩ := h
    obtain ⟨its, rv, pl, hz⟩ := I.list (SqL.of hp)
    obtain ⟨u, hu', ru⟩ := rv.get (List.getElem?_eq_getElem hlt)
    rw [ev] at ru
    obtain rfl : u = Value.ref q := ru
    refine codeAny_builtin PySem.F.l2_entry_upd ?_
    rw [Around.under_plainId PySem.F.l2_plain_upd _]
    show wpAny _ A.in1 (pyNext (.ref it) >>= _) _ _ s
    refine wpAny_bind (wpAny_pyNext_list_item st pl.isList (x := .ref q) (by simpa using hu') fun h' st' sb => ?_)
    have I1 : Inv X pins σ H { s with heap := h' } := I.turned (t' := s.toks) (fun b o hb e => (sb.2 b hb).trans e) f.1 f.2.1 f.2.2.2.1 f.2.2.2.2.1 f.2.2.2.2.2
    obtain ⟨jts, rw', ht, _⟩ := I1.tuple (SqT.of hq)
    cases rw' with
    | @cons _ ku _ r ry rr =>
      cases rr with
      | @cons _ xu _ r2 rx rr2 =>
        cases rr2
        obtain ⟨o, ho, hc, m, hd⟩ := ht
        refine wpAny_bind (wpAny_holding (wpAny_bind (wpAny_tryCatch ?_)))
        unfold Builtin.Dict.pairItems
        refine wpAny_bind (wpAny_typeOf (show ({ s with heap := h' } : Shared).TypeIs (.ref q) "tuple" from ⟨o, ho, hc⟩) ?_)
        rw [if_pos (by decide)]
        refine wpAny_bind (wpAny_seqItems ho hd (wpAny_pure ?_))
        obtain ⟨oi, ei, ci, di⟩ := id st'
        have I1p := I1.pinned (fp := [it]) (fun b hb => by rw [List.mem_singleton.mp hb]; exact f) (fun b hb => by rw [List.mem_singleton.mp hb]; exact ⟨oi, ei, fun v z => by rw [di] at z; cases z⟩)
        refine wpAny_holding (d_dictSet hu I1p g ry rx fun s2 I2 => ?_)
        have e2 : s2.heap.get? it = some oi := (I2.pin (it, oi) (List.mem_append_right _ (List.mem_append_right _ (mem_pinsAt (List.mem_singleton.mpr rfl) ei)))).1
        refine wpAny_pure ⟨plainId_quiet PySem.F.l2_plain_upd _, ?_⟩
        have I3 : Inv X pins σ H' s2 := I2.pins_of fun p hp => I2.pin p (List.mem_append_right _ (List.mem_append_left _ hp))
        exact ih (i + 1) _ _ H' s2 (by omega) hlt I3 ⟨oi, e2, ci, di⟩ (pins_put g f) (g.other hp (fun _ z => nomatch z) (fun _ z => nomatch z)) h
def rDictL : List V → Hp → VK → Prop := fun xs H Q => ∃ p vs, xs = [.ref p] ∧ H p = some (.lst vs) ∧ ∀ D, H D = none → putAll D vs (upd H D (.dT [])) fun H2 => Q (.ref D) H2
theorem call_dictL (hc : X.calm = true) (hu : X.A.in1.in1.units + 64 < cLine) : CallR X (.type "dict") rDictL := by
  intro pins s σ H xs us Q I r h
  obtain ⟨p, vs, rfl, hp, h⟩ := h
  obtain ⟨u, rfl, ru⟩ := vals1 r
  cases ru
  have hD : H s.heap.objs.size = none := I.hok.fresh (Nat.le_refl _)
  have h := h _ hD
  refine callType_codes (Q₁ := fun obj s₁ => obj = .ref s.heap.objs.size ∧ s₁ = { s with heap := s.heap.push { cls := .type "dict", data := .dict #[] } }) PySem.F.kt_called_dict (PySem.F.kt_typeCall_dict_1 _) PySem.F.entry_dict_init (kt_code_dict_new _ ⟨rfl, rfl⟩) ?_
  rintro obj s₁ ⟨rfl, rfl⟩
  have I1 : Inv X pins σ (upd H s.heap.objs.size (.dT [])) { s with heap := s.heap.push { cls := .type "dict", data := .dict #[] } } := I.laid (t' := s.toks) (fun _ _ q => Heap.get?_push_of_some _ q) (Nat.le_refl _) (dt_empty _ I.big)
  have hp1 : upd H s.heap.objs.size (.dT []) p = some (.lst vs) := by rw [upd_ne (ne_of_none hp hD)]; exact hp
  have hT : ({ s with heap := s.heap.push { cls := .type "dict", data := .dict #[] } } : Shared).TypeIs (.ref s.heap.objs.size) "dict" := ⟨_, Heap.get?_push_size _ rfl, rfl⟩
  refine ⟨hT, PySem.F.args_dict_init_2 _ _, ?_⟩
  unfold Builtin.«dict.__init__»
  refine wpAny_bind ?_
  unfold Builtin.Dict.selfAndRest
  refine wpAny_bind (wpAny_notOrdered_dict hT ?_)
  show wpAny _ _ (pure (s.heap.objs.size, [Value.ref p])) _ _ _
  refine wpAny_pure ?_
  show wpAny _ _ (Builtin.Dict.updateFrom "dict.__init__" s.heap.objs.size (.ref p) [] .none) _ _ _
  unfold Builtin.Dict.updateFrom
  obtain ⟨z, its, n, rv, e⟩ := (show ObjOk X.prog X.w _ _ p (.lst vs) from I1.hok p _ hp1)
  refine wpAny_bind (wpAny_typeOf (show Shared.TypeIs _ (.ref p) "list" from ⟨_, e, rfl⟩) ?_)
  rw [if_pos (by decide)]
  refine wpAny_bind (l2_keys_miss e PySem.F.l2_list_keys (by decide +kernel) (I.ok.hd hc) (fun h' tk hk => ?_) (by rw [sizeLine_eq]; decide))
  have I2 : Inv X pins σ (upd H s.heap.objs.size (.dT [])) { s with heap := h', toks := tk } := I1.kept hk
  rw [if_pos (show (none : Option Value).isNone = true from rfl)]
  refine wpAny_bind (wpAny_rule ?_)
  obtain ⟨z2, its2, n2, rv2, e2⟩ := (show ObjOk X.prog X.w _ _ p (.lst vs) from I2.hok p _ hp1)
  refine wpAny_bind (wpAny_pyIter_list (s := { s with heap := h', toks := tk }) ⟨_, e2, rfl, n2, rfl⟩ ?_)
  refine wpAny_pure ⟨plainId_quiet PySem.F.l2_plain_upd _, ?_⟩
  have I3 : Inv X pins σ (upd H s.heap.objs.size (.dT [])) { s with heap := h'.push { cls := .type "list_iterator", data := .fields #[.ref p, .int 0 0] }, toks := tk } := I2.kept fun _ _ q => Heap.get?_push_of_some _ q
  exact upd_loop (A := X.A.in1) (D := s.heap.objs.size) (vs := vs) (k := fun H2 => Q (.ref s.heap.objs.size) H2) (I.ok.hd hc) (by omega) (fun H2 s2 J q => ⟨rfl, .ref s.heap.objs.size, H2, J, rfl, q⟩) vs.length 0 0 0 _ _ (Nat.sub_zero _) (Nat.zero_le _) I3 ⟨_, Heap.get?_push_size _ rfl, rfl, rfl⟩ (I2.fpOk (Nat.le_refl _) (I2.hok.fresh (Nat.le_refl _))) hp1 h
end
end L2

end

section
set_option Elab.async false
set_option linter.all false
set_option maxRecDepth 100000
set_option maxHeartbeats 4000000
namespace L2
open PySem PySem.Spec PyProof.Rows
def pairsF (g : GF) (c : TF) (fk : KF) (e : EF) : List CD → Ga → Sto → Option (List (KY × CD) × Sto)
  | [], _, M => some ([], M)
  | x :: xs, γ, M => (g x γ M).bind fun a => (c a.1 a.2).bind fun b => if b.1 = true then (fk a.1 b.2).bind fun k => (e a.1 k.2).bind fun v => (pairsF g c fk e xs a.1 v.2).bind fun q => some ((k.1, v.1) :: q.1, q.2) else pairsF g c fk e xs a.1 b.2
def putPs (d : Nat) : List (KY × CD) → Sto → Option Sto
  | [], M => some M
  | p :: r, M => (setD M (.c d) p.1 p.2).bind fun M' => putPs d r M'
def fDL (cap : List (Option Nat)) (f : AF) (g : GF) (c : TF) (fk : KF) (e : EF) : EF := fun γ M => (f γ M).bind fun r => if r.1.length ≤ sizeLine then (pairsF g c fk e r.1 (capG cap γ) r.2).bind fun q => (putPs q.2.length q.1 (q.2 ++ [.dt []])).bind fun M' => some (.c q.2.length, M') else none
def PR (K : PySem.W.Frag) (W : Wd) (p : KY × CD) (v : V) : Prop := ∃ q y x, v = .ref q ∧ W.F q = some (.tup [y, x]) ∧ KRep W p.1 y ∧ RepV K W p.2 x
section
variable {K : PySem.W.Frag} {tg : TG} {tt : TT} {hg : GF} {ft : TF} {fa : AF} {tk tv : TE} {fk : KF} {fe : EF}
theorem PR.up {W W' : Wd} {p : KY × CD} {v : V} (h : PR K W p v) (e : W.Ext W') : PR K W' p v := by
  obtain ⟨q, y, x, h1, h2, h3, h4⟩ := h
  exact ⟨q, y, x, h1, e.ff _ _ h2, h3.up e, h4.up e⟩
theorem put_all {D : Addr} {d : Nat} : ∀ {ps : List (KY × CD)} {vs : List V} {W : Wd} {M M' : Sto} {H : Hp} {k : Hp → Prop}, putPs d ps M = some M' → Good K W M H → RepV K W (.c d) (.ref D) → Paired (PR K W) ps vs → (∀ H', Good K W M' H' → k H') → putAll D vs H k
  | _, _, W, M, M', H, k, h, G, rD, .nil, c => by cases h; exact c H G
  | p :: ps, v :: vs, W, M, M', H, k, h, G, rD, .cons r1 r2, c => by
    obtain ⟨M1, h1, h⟩ := bindE (show (setD M (.c d) p.1 p.2).bind _ = _ from h)
    obtain ⟨q, y, x, rfl, hq, ry, rx⟩ := r1
    obtain ⟨a, H1, ea, g, G1⟩ := setD_rep G h1 rD ry rx
    cases ea
    exact ⟨q, y, x, H1, rfl, G.fh _ _ hq, g, put_all h G1 rD r2 c⟩
theorem se_dl {wi : TI} {cap : List (Option Nat)} (i : SI K wi fa) (a : SG K tg hg) (c : STt K tt ft) (b : SK K tk fk) (e : SE K tv fe) :
    SE K (tCB rDictL (tCons (tLc cap wi tg tt (tTup (tCons tk (tCons tv tNil)))) tNil)) (fDL cap fa hg ft fk fe) := by
  intro γ M x M' hh W H σ Q G R k
  obtain ⟨⟨ys, M1⟩, h1, hh⟩ := bindE hh
  by_cases hl : ys.length ≤ sizeLine
  · have hh : (if ys.length ≤ sizeLine then (pairsF hg ft fk fe ys (capG cap γ) M1).bind fun q => (putPs q.2.length q.1 (q.2 ++ [.dt []])).bind fun M' => some (CD.c q.2.length, M') else none) = some (x, M') := hh
    rw [if_pos hl] at hh
    obtain ⟨⟨xs, M8⟩, h8, hh⟩ := bindE hh
    obtain ⟨M9, h9, hh⟩ := bindE hh
    cases hh
    refine i _ _ _ _ h1 W H σ _ G R fun J W1 H1 e1 G1 gv => ?_
    refine ⟨fun j m acc σ' H' => ∃ γ' M2 W2 pre suf, j ≤ ys.length ∧ m = ys.length - j ∧ acc.length ≤ j ∧ W1.Ext W2 ∧ Good K W2 M2 H' ∧ RepS K W2 γ' σ' ∧ Paired (PR K W2) pre acc ∧ pre ++ suf = xs ∧ pairsF hg ft fk fe (ys.drop j) γ' M2 = some (suf, M8),
      ⟨_, capG cap γ, M1, W1, [], xs, Nat.zero_le _, rfl, Nat.zero_le _, .refl _, G1, capRep (R.up e1) cap, .nil, rfl, h8⟩, ?_⟩
    rintro j m acc σ' H' ⟨γ', M2, W2, pre, suf, hj, rfl, hacc, e2, G2, R2, rp, hx, h2⟩
    obtain ⟨gv1, gv2⟩ := gv W2 M2 H' e2 G2
    by_cases hlt : j < ys.length
    · obtain ⟨go, yl⟩ := gv1 j ys[j] (List.getElem?_eq_getElem hlt)
      rw [List.drop_eq_getElem_cons hlt] at h2
      refine .inr ⟨go, by omega, fun acc3 σ3 H3 => ∃ γ3 M3 W3 pre3 suf3, acc3.length ≤ j + 1 ∧ W2.Ext W3 ∧ Good K W3 M3 H3 ∧ RepS K W3 γ3 σ3 ∧ Paired (PR K W3) pre3 acc3 ∧ pre3 ++ suf3 = xs ∧ pairsF hg ft fk fe (ys.drop (j + 1)) γ3 M3 = some (suf3, M8), ?_, fun y H3 hy => ?_⟩
      · rintro acc3 σ3 H3 ⟨γ3, M3, W3, pre3, suf3, hl3, e3, G3, R3, rp3, hx3, h3⟩
        exact ⟨_, by omega, γ3, M3, W3, pre3, suf3, hlt, rfl, hl3, e2.trans e3, G3, R3, rp3, hx3, h3⟩
      · obtain ⟨W8, e8, G8, ry⟩ := yl y H3 hy
        obtain ⟨⟨γ4, M4⟩, h4, h2⟩ := bindE (show (hg ys[j] γ' M2).bind _ = _ from h2)
        obtain ⟨⟨b5, M5⟩, h5, h2⟩ := bindE h2
        refine a _ _ _ _ _ h4 W8 _ σ' y _ G8 (R2.up e8) ry fun σ4 W4 H4 e4 G4 R4 => ?_
        refine c _ _ _ _ h5 W4 H4 σ4 _ G4 R4 fun W5 H5 e5 G5 => ?_
        have e25 := (e8.trans e4).trans e5
        cases b5 with
        | true =>
          rw [if_pos rfl] at h2
          obtain ⟨⟨ky, M6⟩, h6, h2⟩ := bindE h2
          obtain ⟨⟨z, M7⟩, h7, h2⟩ := bindE h2
          obtain ⟨⟨zs, M10⟩, h10, h2⟩ := bindE h2
          cases h2
          refine .inl ⟨rfl, b _ _ _ _ h6 W5 H5 σ4 _ G5 (R4.up e5) fun yv W6 H6 e6 G6 r6 => e _ _ _ _ h7 W6 H6 σ4 _ G6 (R4.up (e5.trans e6)) fun xv W7 H7 e7 G7 r7 => ⟨by show 2 ≤ sizeLine; decide, fun q hq => ?_⟩⟩
          obtain ⟨e9, G9⟩ := G7.lay (o := .tup [yv, xv]) hq
          have e29 := ((e25.trans e6).trans e7).trans e9
          refine ⟨γ4, M7, _, pre ++ [(ky, z)], zs, by rw [List.length_append]; simp only [List.length_singleton]; omega, e29, G9, R4.up (((e5.trans e6).trans e7).trans e9), Paired.app (Paired.mapP rp fun _ _ r => PR.up r e29) (.cons ⟨q, yv, xv, rfl, upd_same, (r6.up e7).up e9, r7.up e9⟩ .nil), by rw [← hx, List.append_assoc]; rfl, h10⟩
        | false =>
          rw [if_neg Bool.false_ne_true] at h2
          exact .inr ⟨rfl, γ4, M5, W5, pre, suf, by omega, e25, G5, R4.up e5, Paired.mapP rp fun _ _ r => PR.up r e25, hx, h2⟩
    · have ej : j = ys.length := by omega
      subst ej
      rw [List.drop_length] at h2
      cases h2
      rw [List.append_nil] at hx
      subst hx
      refine .inl ⟨gv2, fun p hp => ⟨p, acc, rfl, upd_same, fun D hD => ?_⟩⟩
      have G3 := G2.extra (o := .lst acc) hp
      have G4 : Good K (W2.more D) (M8 ++ [.dt []]) (upd (upd H' p (.lst acc)) D (.dT [])) := G3.new hD .nil
      have e4 := W2.ext_more D
      exact put_all h9 G4 G3.newV (Paired.mapP rp fun _ _ r => PR.up r e4) fun H5 G5 => k _ _ H5 ((e1.trans e2).trans e4) G5 G3.newV
  · have hh : (if ys.length ≤ sizeLine then (pairsF hg ft fk fe ys (capG cap γ) M1).bind fun q => (putPs q.2.length q.1 (q.2 ++ [.dt []])).bind fun M' => some (CD.c q.2.length, M') else none) = some (x, M') := hh
    rw [if_neg hl] at hh; cases hh
variable {ι : Type} {X : ι → Cx} {N' : List Str} {cap : List (Option Nat)} {scope : Scope} {tg' iter vx : Expr} {kxs ifs : List Expr} {gf : GF} {fka : AF} {f : EF} {pos p kpos tpos lpos : Pos} {m n : Nat}
theorem me_dl (hK : ∀ i, (X i).K = K) (hu : ∀ i, (X i).A.in1.in1.units + 64 < cLine) (hc : ∀ i, (X i).calm = true) (hm : ∀ i, (X i).mg "dict" = none) (S : ∀ i, LcSc (X i) N' cap scope) (x : MI K X tg' iter fa) (y : MG K (lcFam X N' scope) tg' gf) (z : MF K (lcFam X N' scope) ifs ft) (w : MA K (lcFam X N' scope) kxs fka) (q : ME K (lcFam X N' scope) vx f)
    (sv : Star vx []) (hs : ∀ (env : Env) (x : Value), foldedSetIterable iter env x = pure x := by intro _ _; rfl) (hg : ∀ i, Gl (X i) "dict" := by intro _; rfl) :
    ME K X (.Call (.Name "dict" p) [.ListComp (.Tuple [.Tuple kxs m kpos, vx] n tpos) [⟨tg', iter, ifs, 0⟩] scope lpos] [] pos) (fDL cap fa gf ft (kTup fka) f) := by
  obtain ⟨t, x1, x2⟩ := x.ex; obtain ⟨u, y1, y2⟩ := y.ex; obtain ⟨v, z1, z2⟩ := z.ex; obtain ⟨o, w1, w2⟩ := w.ex; obtain ⟨r, q1, q2⟩ := q.ex
  refine ⟨_, fun i => pe_callTy (call_dictL (hc i) (hu i)) (hg i) (hm i) boot_dict (pa_cons (pe_lc (hc i) (S i) (x1 i) (fun C s H fp pn => y1 (i, C, s, H, fp, pn)) (fun C s H fp pn => z1 (i, C, s, H, fp, pn)) (fun C s H fp pn => pe_tup (pa_cons (pe_tup (w1 (i, C, s, H, fp, pn))) (pa_cons (q1 (i, C, s, H, fp, pn)) pa_nil (sv _)) star_Tuple)) (hs _)) pa_nil star_ListComp) (by decide) (by decide) star_ListComp rfl, se_dl x2 y2 z2 (sk_tup w2) q2⟩
end
end L2

end

section
set_option Elab.async false
set_option linter.all false
set_option maxRecDepth 100000
set_option maxHeartbeats 4000000
noncomputable section
namespace Q4
open PySem PySem.Spec PyProof.Rows L2
def top (i : Nat) : Stmt := PySem.Challenge.pw_cutstree_k04_web.main.body.getD i (.Pass ⟨0, 0, 0, 0⟩)
abbrev st__law_stream : Stmt := top 24
theorem sc__law_stream : FnScope ["_law_script", "_law_k", "_law_cell", "_law_mixed"] ["_law_script", "_law_k"] (defScope st__law_stream) := ⟨rfl, rfl, rfl, by decide +kernel, rfl, by decide +kernel, by decide +kernel⟩
def m__law_stream : SF := (sSeq (sIf (gB (fOp ltI (fVar 1) (fCall lenF (fCons (fVar 0) fNil)))) 
    (sSeq (sAsg (fOp ixF (fVar 0) (fVar 1)) (hName 2)) 
  (sSeq (sAsg (fOp addX (fOp addX (fOp modI (fVar 2) (fC (.int 2147483629))) (fOp mulI (fVar 1) (fVar 1))) (fC (.int 1))) (hName 3)) 
  (sSeq (sIf (gB (fOp ltI (fVar 2) (fOp powI (fC (.int 10)) (fC (.int 18))))) 
    (sAsg (fC (.int 0)) (hName 2)) 
    sNext) 
  (sRet (fNew (fCons (fVar 2) (fCons (fVar 3) fNil))))))) 
    sNext) 
  (sRet (fNew (fCons (fC (.int 0)) (fCons (fOp addX (fOp mulI (fVar 1) (fVar 1)) (fC (.int 11))) fNil)))))
def F__law_stream : FN := fnF 2 4 m__law_stream
abbrev st__law_take : Stmt := top 25
theorem sc__law_take : FnScope ["_law_stream_here", "_law_most", "_law_digit"] ["_law_stream_here", "_law_most"] (defScope st__law_take) := ⟨rfl, rfl, rfl, by decide +kernel, rfl, by decide +kernel, by decide +kernel⟩
def m__law_take : SF := (sSeq (sIf (gB (fOp (eqX false) (fOp ixF (fVar 0) (fC (.int 0))) (fC (.int 0)))) 
    (sSeq (sAsg (fOp modI (fOp addX (fOp mulI (fOp ixF (fVar 0) (fC (.int 1))) (fC (.int 48271))) (fC (.int 12345))) (fC (.int 2147483647))) (hSub (fVar 0) (fC (.int 1)) setF)) 
  (sRet (fOp modI (fOp modI (fOp mulI (fOp ixF (fVar 0) (fC (.int 1))) (fOp ixF (fVar 0) (fC (.int 1)))) (fC (.int 2147483629))) (fVar 1)))) 
    sNext) 
  (sSeq (sAsg (fOp modI (fOp ixF (fVar 0) (fC (.int 0))) (fVar 1)) (hName 2)) 
  (sSeq (sAsg (fOp fdivI (fOp ixF (fVar 0) (fC (.int 0))) (fVar 1)) (hSub (fVar 0) (fC (.int 0)) setF)) 
  (sRet (fVar 2)))))
def F__law_take : FN := fnF 2 3 m__law_take
abbrev st__law_lists : Stmt := top 29
theorem sc__law_lists : FnScope ["_law_thing"] ["_law_thing"] (defScope st__law_lists) := ⟨rfl, rfl, rfl, by decide +kernel, rfl, by decide +kernel, by decide +kernel⟩
def C__law_lists_0 (self : FN) : EF := (fLcN [none] (fItems (fVar 0)) (hName 0) gYes (fCall self (fCons (fVar 0) fNil)))
def m__law_lists (self : FN) : SF := (sSeq (sIf (gB (fIsiC "tuple" (fVar 0))) 
    (sRet (C__law_lists_0 self)) 
    sNext) 
  (sRet (fVar 0)))
def F__law_lists : Nat → FN
  | 0 => fun _ _ => none
  | n + 1 => fnF 1 1 (m__law_lists (F__law_lists n))
abbrev st_is_whole : Stmt := top 5
theorem sc_is_whole : FnScope ["thing"] ["thing"] (defScope st_is_whole) := ⟨rfl, rfl, rfl, by decide +kernel, rfl, by decide +kernel, by decide +kernel⟩
def m_is_whole : SF := (sRet (fAnd (fIsiC "int" (fVar 0)) (fNot (fIsiC "bool" (fVar 0)))))
def F_is_whole : FN := fnF 1 1 m_is_whole
abbrev st_is_row : Stmt := top 6
theorem sc_is_row : FnScope ["thing"] ["thing"] (defScope st_is_row) := ⟨rfl, rfl, rfl, by decide +kernel, rfl, by decide +kernel, by decide +kernel⟩
def m_is_row : SF := (sRet (fIsi2C "list" "tuple" (fVar 0)))
def F_is_row : FN := fnF 1 1 m_is_row
abbrev st_common : Stmt := top 17
theorem sc_common : FnScope ["one", "other"] ["one", "other"] (defScope st_common) := ⟨rfl, rfl, rfl, by decide +kernel, rfl, by decide +kernel, by decide +kernel⟩
def W_common_0 : SF := (sWhile (gTru (fVar 1)) (sPar 0 1 (fCons (fVar 1) (fCons (fOp modI (fVar 0) (fVar 1)) fNil))))
def m_common : SF := (sSeq W_common_0 
  (sRet (fVar 0)))
def F_common : FN := fnF 2 2 m_common
abbrev st_is_row_of : Stmt := top 7
theorem sc_is_row_of : FnScope ["thing", "length"] ["thing", "length"] (defScope st_is_row_of) := ⟨rfl, rfl, rfl, by decide +kernel, rfl, by decide +kernel, by decide +kernel⟩
def m_is_row_of : SF := (sRet (fAnd (fCall F_is_row (fCons (fVar 0) fNil)) (fOp (eqX false) (fCall lenF (fCons (fVar 0) fNil)) (fVar 1))))
def F_is_row_of : FN := fnF 2 2 m_is_row_of
abbrev st_has_amount_numbers : Stmt := top 16
theorem sc_has_amount_numbers : FnScope ["thing"] ["thing"] (defScope st_has_amount_numbers) := ⟨rfl, rfl, rfl, by decide +kernel, rfl, by decide +kernel, by decide +kernel⟩
def m_has_amount_numbers : SF := (sSeq (sIf (gOr (gNot (gB (fCall F_is_row_of (fCons (fVar 0) (fCons (fC (.int 2)) fNil))))) (gOr (gNot (gB (fCall F_is_whole (fCons (fOp ixF (fVar 0) (fC (.int 0))) fNil)))) (gNot (gB (fCall F_is_whole (fCons (fOp ixF (fVar 0) (fC (.int 1))) fNil)))))) 
    (sRet (fC (.bool false))) 
    sNext) 
  (sRet (fAnd (fOp geI (fOp ixF (fVar 0) (fC (.int 0))) (fC (.int 0))) (fOp geI (fOp ixF (fVar 0) (fC (.int 1))) (fC (.int 1))))))
def F_has_amount_numbers : FN := fnF 1 1 m_has_amount_numbers
abbrev st_is_in_parts : Stmt := top 15
theorem sc_is_in_parts : FnScope ["thing"] ["thing"] (defScope st_is_in_parts) := ⟨rfl, rfl, rfl, by decide +kernel, rfl, by decide +kernel, by decide +kernel⟩
def m_is_in_parts : SF := (sRet (fAnd (fCall F_has_amount_numbers (fCons (fVar 0) fNil)) (fAnd (fOp (eqX false) (fOp modI (fC (.int 55440)) (fOp ixF (fVar 0) (fC (.int 1)))) (fC (.int 0))) (fOp (eqX false) (fCall F_common (fCons (fOp ixF (fVar 0) (fC (.int 0))) (fCons (fOp ixF (fVar 0) (fC (.int 1))) fNil))) (fC (.int 1))))))
def F_is_in_parts : FN := fnF 1 1 m_is_in_parts
abbrev st_is_weight : Stmt := top 14
theorem sc_is_weight : FnScope ["thing"] ["thing"] (defScope st_is_weight) := ⟨rfl, rfl, rfl, by decide +kernel, rfl, by decide +kernel, by decide +kernel⟩
def m_is_weight : SF := (sRet (fAnd (fCall F_is_in_parts (fCons (fVar 0) fNil)) (fOp leI (fOp ixF (fVar 0) (fC (.int 0))) (fC (.int 1000000000000)))))
def F_is_weight : FN := fnF 1 1 m_is_weight
abbrev st_is_place : Stmt := top 8
theorem sc_is_place : FnScope ["many", "thing"] ["many", "thing"] (defScope st_is_place) := ⟨rfl, rfl, rfl, by decide +kernel, rfl, by decide +kernel, by decide +kernel⟩
def m_is_place : SF := (sRet (fAnd (fCall F_is_whole (fCons (fVar 1) fNil)) (fChain leI ltI (fC (.int 0)) (fVar 1) (fVar 0))))
def F_is_place : FN := fnF 2 2 m_is_place
abbrev st_are_unlike_places : Stmt := top 9
theorem sc_are_unlike_places : FnScope ["many", "i", "j"] ["many", "i", "j"] (defScope st_are_unlike_places) := ⟨rfl, rfl, rfl, by decide +kernel, rfl, by decide +kernel, by decide +kernel⟩
def m_are_unlike_places : SF := (sRet (fAnd (fCall F_is_place (fCons (fVar 0) (fCons (fVar 1) fNil))) (fAnd (fCall F_is_place (fCons (fVar 0) (fCons (fVar 2) fNil))) (fOp (eqX true) (fVar 1) (fVar 2)))))
def F_are_unlike_places : FN := fnF 3 3 m_are_unlike_places
abbrev st_is_between_places : Stmt := top 10
theorem sc_is_between_places : FnScope ["many", "thing"] ["many", "thing"] (defScope st_is_between_places) := ⟨rfl, rfl, rfl, by decide +kernel, rfl, by decide +kernel, by decide +kernel⟩
def m_is_between_places : SF := (sRet (fAnd (fCall F_is_row_of (fCons (fVar 1) (fCons (fC (.int 3)) fNil))) (fAnd (fCall F_are_unlike_places (fCons (fVar 0) (fCons (fOp ixF (fVar 1) (fC (.int 0))) (fCons (fOp ixF (fVar 1) (fC (.int 1))) fNil)))) (fOp ltI (fOp ixF (fVar 1) (fC (.int 0))) (fOp ixF (fVar 1) (fC (.int 1)))))))
def F_is_between_places : FN := fnF 2 2 m_is_between_places
abbrev st_is_tie : Stmt := top 22
theorem sc_is_tie : FnScope ["many", "thing"] ["many", "thing"] (defScope st_is_tie) := ⟨rfl, rfl, rfl, by decide +kernel, rfl, by decide +kernel, by decide +kernel⟩
def m_is_tie : SF := (sRet (fAnd (fCall F_is_between_places (fCons (fVar 0) (fCons (fVar 1) fNil))) (fCall F_is_weight (fCons (fOp ixF (fVar 1) (fC (.int 2))) fNil))))
def F_is_tie : FN := fnF 2 2 m_is_tie
abbrev st_kept_ties : Stmt := top 21
theorem sc_kept_ties : FnScope ["many", "ties", "weights", "at", "row"] ["many", "ties"] (defScope st_kept_ties) := ⟨rfl, rfl, rfl, by decide +kernel, rfl, by decide +kernel, by decide +kernel⟩
def L_kept_ties_0 : SF := (sSeq (sIf (gOr (gNot (gB (fCall F_is_tie (fCons (fVar 0) (fCons (fVar 4) fNil))))) (gB (fDIn false (kTup (fCons (fOp ixF (fVar 4) (fC (.int 0))) (fCons (fOp ixF (fVar 4) (fC (.int 1))) fNil))) (fVar 2)))) 
    sNever 
    sNext) 
  (sDPutF (fVar 2) (kTup (fCons (fOp ixF (fVar 4) (fC (.int 0))) (fCons (fOp ixF (fVar 4) (fC (.int 1))) fNil))) (fCall tupleF (fCons (fOp ixF (fVar 4) (fC (.int 2))) fNil))))
def C_kept_ties_0 : EF := (fLc [none, none, none] (fItems (fSortI (fVar 2))) (hTup 2 (hCons (hTup 2 (hCons (hName 0) (hCons (hName 1) hNil))) (hCons (hName 2) hNil))) (gB (fOp gtI (fOp ixF (fVar 2) (fC (.int 0))) (fC (.int 0)))) (fTup (fCons (fVar 0) (fCons (fVar 1) (fCons (fVar 2) fNil)))))
def m_kept_ties : SF := (sSeq (sIf (gNot (gB (fCall F_is_row (fCons (fVar 1) fNil)))) 
    sNever 
    sNext) 
  (sSeq (sAsg fDNewT (hName 2)) 
  (sSeq (sForE (fCons (fVar 1) fNil) (hCons (hName 3) (hCons (hName 4) hNil)) L_kept_ties_0) 
  (sRet (fCall tupleF (fCons C_kept_ties_0 fNil))))))
def F_kept_ties : FN := fnF 2 5 m_kept_ties
abbrev st_Web__init : Stmt := inClass (top 20) 0
theorem sc_Web__init : FnScope ["self", "many", "ties"] ["self", "many", "ties"] (defScope st_Web__init) := ⟨rfl, rfl, rfl, by decide +kernel, rfl, by decide +kernel, by decide +kernel⟩
def C_Web__init_0 : EF := (fDc (.dt []) [none, none, none] (fItems (fFld "Web" "ties" (fVar 0))) (hTup 3 (hCons (hName 0) (hCons (hName 1) (hCons (hName 2) hNil)))) gYes (kTup (fCons (fVar 0) (fCons (fVar 1) fNil))) (fVar 2))
def m_Web__init : SF := (sSeq (sIf (gOr (gNot (gB (fCall F_is_whole (fCons (fVar 1) fNil)))) (gOr (gB (fOp ltI (fVar 1) (fC (.int 1)))) (gB (fOp gtI (fVar 1) (fC (.int 40)))))) 
    sNever 
    sNext) 
  (sSeq (sFldF "Web" "many" (fVar 0) (fVar 1)) 
  (sSeq (sFldF "Web" "ties" (fVar 0) (fCall F_kept_ties (fCons (fVar 1) (fCons (fVar 2) fNil)))) 
  (sFldF "Web" "weights" (fVar 0) C_Web__init_0))))
def F_Web__init : FN := fnF 3 3 m_Web__init
abbrev st__law_spoil : Stmt := top 32
theorem sc__law_spoil : FnScope ["_law_thing", "_law_inner"] ["_law_thing"] (defScope st__law_spoil) := ⟨rfl, rfl, rfl, by decide +kernel, rfl, by decide +kernel, by decide +kernel⟩
def L__law_spoil_0 (self : FN) : SF := (sIf (gB (fIsiC "list" (fVar 1))) 
    (sDrop (fCall self (fCons (fVar 1) fNil))) 
    sNext)
def m__law_spoil (self : FN) : SF := (sSeq (sForP (fItemsP (fCall listN (fCons (fVar 0) fNil))) (hName 1) (L__law_spoil_0 self)) 
  (sDrop (fMeth "list" appendF (fVar 0) (fCons (fC (.int 0)) fNil))))
def F__law_spoil : Nat → FN
  | 0 => fun _ _ => none
  | n + 1 => fnF 1 2 (m__law_spoil (F__law_spoil n))
abbrev st__law_due : Stmt := top 31
theorem sc__law_due : FnScope ["_law_ties_here"] ["_law_ties_here"] (defScope st__law_due) := ⟨rfl, rfl, rfl, by decide +kernel, rfl, by decide +kernel, by decide +kernel⟩
def K__law_due_0 : EF := (fTup (fCons (fC (.int 0)) (fCons (fC (.int 1)) fNil)))
def C__law_due_0 : EF := (fLc [none] (fItems (fVar 0)) (hName 0) (gB (fOp (eqX true) (fOp ixF (fVar 0) (fC (.int 2))) K__law_due_0)) (fVar 0))
def m__law_due : SF := (sRet (fCall tupleF (fCons (fCall sort2F (fCons C__law_due_0 fNil)) fNil)))
def F__law_due : FN := fnF 1 1 m__law_due
abbrev st_Web__tie : Stmt := inClass (top 20) 1
theorem sc_Web__tie : FnScope ["self", "i", "j"] ["self", "i", "j"] (defScope st_Web__tie) := ⟨rfl, rfl, rfl, by decide +kernel, rfl, by decide +kernel, by decide +kernel⟩
def K_Web__tie_0 : EF := (fTup (fCons (fC (.int 0)) (fCons (fC (.int 1)) fNil)))
theorem eK_Web__tie_0 (γ : Ga) (M : Sto) : K_Web__tie_0 γ M = some (.d (.tuple [(.int 0), (.int 1)]), M) := rfl
def m_Web__tie : SF := (sRet (fDGet2 (fFld "Web" "weights" (fVar 0)) (kTup (fCons (fCall min2F (fCons (fVar 1) (fCons (fVar 2) fNil))) (fCons (fCall max2F (fCons (fVar 1) (fCons (fVar 2) fNil))) fNil))) K_Web__tie_0))
def F_Web__tie : FN := fnF 3 3 m_Web__tie
abbrev st__law_holds : Stmt := top 33
theorem sc__law_holds : FnScope ["_law_web", "_law_many", "_law_ties_here", "_law_due_here", "_law_weights", "_law_j", "_law_i", "_law_own"] ["_law_web", "_law_many", "_law_ties_here"] (defScope st__law_holds) := ⟨rfl, rfl, rfl, by decide +kernel, rfl, by decide +kernel, by decide +kernel⟩
def C__law_holds_0 : EF := (fDL [none, none, none] (fItems (fVar 3)) (hTup 3 (hCons (hName 0) (hCons (hName 1) (hCons (hName 2) hNil)))) gYes (kTup (fCons (fVar 0) (fCons (fVar 1) fNil))) (fVar 2))
def K__law_holds_0 : EF := (fTup (fCons (fC (.int 0)) (fCons (fC (.int 1)) fNil)))
theorem eK__law_holds_0 (γ : Ga) (M : Sto) : K__law_holds_0 γ M = some (.d (.tuple [(.int 0), (.int 1)]), M) := rfl
def L__law_holds_0 : SF := (sSeq (sAsg (fCall reprC (fCons (fDGet2 (fVar 4) (kTup (fCons (fVar 6) (fCons (fVar 5) fNil))) K__law_holds_0) fNil)) (hName 7)) 
  (sIf (gOr (gB (fOp (eqX true) (fCall reprC (fCons (fMethO "Web" "tie" F_Web__tie (fVar 0) (fCons (fVar 6) (fCons (fVar 5) fNil))) fNil)) (fVar 7))) (gB (fOp (eqX true) (fCall reprC (fCons (fMethO "Web" "tie" F_Web__tie (fVar 0) (fCons (fVar 5) (fCons (fVar 6) fNil))) fNil)) (fVar 7)))) 
    (sRet (fC (.bool false))) 
    sNext))
def L__law_holds_1 : SF := (sFor (fRng1 (fCons (fVar 5) fNil)) (hName 6) L__law_holds_0)
def m__law_holds : SF := (sSeq (sAsg (fCall F__law_due (fCons (fVar 2) fNil)) (hName 3)) 
  (sSeq (sIf (gB (fOp (eqX true) (fCall reprC (fCons (fTup (fCons (fFld "Web" "many" (fVar 0)) (fCons (fFld "Web" "ties" (fVar 0)) fNil))) fNil)) (fCall reprC (fCons (fTup (fCons (fVar 1) (fCons (fVar 3) fNil))) fNil)))) 
    (sRet (fC (.bool false))) 
    sNext) 
  (sSeq (sAsg C__law_holds_0 (hName 4)) 
  (sSeq (sFor (fRng1 (fCons (fVar 1) fNil)) (hName 5) L__law_holds_1) 
  (sRet (fC (.bool true)))))))
def F__law_holds : FN := fnF 3 8 m__law_holds
abbrev st__law_made : Stmt := top 34
theorem sc__law_made : FnScope ["_law_many", "_law_ties_here", "_law_handed", "_law_kept", "_law_one", "_law_other"] ["_law_many", "_law_ties_here"] (defScope st__law_made) := ⟨rfl, rfl, rfl, by decide +kernel, rfl, by decide +kernel, by decide +kernel⟩
def m__law_made : SF := (sSeq (sAsg (fCall (F__law_lists 4) (fCons (fCall tupleF (fCons (fVar 1) fNil)) fNil)) (hName 2)) 
  (sSeq (sAsg (fCall reprC (fCons (fVar 2) fNil)) (hName 3)) 
  (sSeq (sAsg (fMake "Web" F_Web__init (fCons (fVar 0) (fCons (fCall tupleF (fCons (fVar 1) fNil)) fNil))) (hName 4)) 
  (sSeq (sAsg (fMake "Web" F_Web__init (fCons (fVar 0) (fCons (fVar 2) fNil))) (hName 5)) 
  (sSeq (sIf (gB (fOp (eqX true) (fCall reprC (fCons (fVar 2) fNil)) (fVar 3))) 
    (sRet (fC (.bool false))) 
    sNext) 
  (sSeq (sDrop (fCall (F__law_spoil 4) (fCons (fVar 2) fNil))) 
  (sRet (fAnd (fCall F__law_holds (fCons (fVar 4) (fCons (fVar 0) (fCons (fVar 1) fNil)))) (fCall F__law_holds (fCons (fVar 5) (fCons (fVar 0) (fCons (fVar 1) fNil))))))))))))
def F__law_made : FN := fnF 2 6 m__law_made
abbrev st__law_pick : Stmt := top 26
theorem sc__law_pick : FnScope ["_law_stream_here", "_law_some"] ["_law_stream_here", "_law_some"] (defScope st__law_pick) := ⟨rfl, rfl, rfl, by decide +kernel, rfl, by decide +kernel, by decide +kernel⟩
def m__law_pick : SF := (sRet (fOp ixF (fVar 1) (fCall F__law_take (fCons (fVar 0) (fCons (fCall lenF (fCons (fVar 1) fNil)) fNil)))))
def F__law_pick : FN := fnF 2 2 m__law_pick
abbrev st__law_least : Stmt := top 27
theorem sc__law_least : FnScope ["_law_above", "_law_below", "_law_one", "_law_other"] ["_law_above", "_law_below"] (defScope st__law_least) := ⟨rfl, rfl, rfl, by decide +kernel, rfl, by decide +kernel, by decide +kernel⟩
def W__law_least_0 : SF := (sWhile (gB (fOp gtI (fVar 3) (fC (.int 0)))) (sPar 2 3 (fCons (fVar 3) (fCons (fOp modI (fVar 2) (fVar 3)) fNil))))
def m__law_least : SF := (sSeq (sAsg (fVar 0) (hName 2)) 
  (sSeq (sAsg (fVar 1) (hName 3)) 
  (sSeq W__law_least_0 
  (sRet (fTup (fCons (fOp fdivI (fVar 0) (fVar 2)) (fCons (fOp fdivI (fVar 1) (fVar 2)) fNil)))))))
def F__law_least : FN := fnF 2 4 m__law_least
abbrev st__law_weight : Stmt := top 28
theorem sc__law_weight : FnScope ["_law_stream_here", "_law_kind", "_law_below", "_law_above"] ["_law_stream_here"] (defScope st__law_weight) := ⟨rfl, rfl, rfl, by decide +kernel, rfl, by decide +kernel, by decide +kernel⟩
def K__law_weight_0 : EF := (fLst (fCons (fTup (fCons (fC (.int 1)) (fCons (fC (.int 1)) fNil))) (fCons (fTup (fCons (fC (.int 1)) (fCons (fC (.int 1)) fNil))) (fCons (fTup (fCons (fC (.int 2)) (fCons (fC (.int 1)) fNil))) (fCons (fTup (fCons (fC (.int 1)) (fCons (fC (.int 2)) fNil))) (fCons (fTup (fCons (fC (.int 3)) (fCons (fC (.int 4)) fNil))) (fCons (fTup (fCons (fC (.int 0)) (fCons (fC (.int 1)) fNil))) fNil)))))))
def K__law_weight_1 : EF := (fLst (fCons (fC (.int 1)) (fCons (fC (.int 2)) (fCons (fC (.int 3)) (fCons (fC (.int 5)) (fCons (fC (.int 7)) (fCons (fC (.int 8)) (fCons (fC (.int 9)) (fCons (fC (.int 11)) (fCons (fC (.int 12)) (fCons (fC (.int 16)) (fCons (fC (.int 35)) (fCons (fC (.int 99)) (fCons (fC (.int 720)) (fCons (fC (.int 5040)) (fCons (fC (.int 27720)) (fCons (fC (.int 55440)) fNil)))))))))))))))))
def m__law_weight : SF := (sSeq (sAsg (fCall F__law_take (fCons (fVar 0) (fCons (fC (.int 8)) fNil))) (hName 1)) 
  (sSeq (sIf (gB (fOp ltI (fVar 1) (fC (.int 6)))) 
    (sRet (fOp ixF K__law_weight_0 (fVar 1))) 
    sNext) 
  (sSeq (sAsg (fCall F__law_pick (fCons (fVar 0) (fCons K__law_weight_1 fNil))) (hName 2)) 
  (sSeq (sAsg (fCall F__law_take (fCons (fVar 0) (fCons (fC (.int 1000)) fNil))) (hName 3)) 
  (sSeq (sIf (gB (fOp (eqX false) (fVar 1) (fC (.int 7)))) 
    (sAsg (fOp ixF (fLst (fCons (fOp powI (fC (.int 10)) (fC (.int 12))) (fCons (fOp subI (fOp powI (fC (.int 10)) (fC (.int 12))) (fC (.int 1))) (fCons (fC (.int 1)) (fCons (fOp addX (fOp powI (fC (.int 10)) (fC (.int 9))) (fCall F__law_take (fCons (fVar 0) (fCons (fC (.int 1000)) fNil)))) fNil))))) (fCall F__law_take (fCons (fVar 0) (fCons (fC (.int 4)) fNil)))) (hName 3)) 
    sNext) 
  (sRet (fCall F__law_least (fCons (fVar 3) (fCons (fVar 2) fNil)))))))))
def F__law_weight : FN := fnF 1 4 m__law_weight
abbrev st__law_ties : Stmt := top 30
theorem sc__law_ties : FnScope ["_law_stream_here", "_law_many", "_law_share", "_law_found", "_law_j", "_law_i", "_law_at"] ["_law_stream_here", "_law_many"] (defScope st__law_ties) := ⟨rfl, rfl, rfl, by decide +kernel, rfl, by decide +kernel, by decide +kernel⟩
def L__law_ties_0 : SF := (sIf (gB (fOp ltI (fCall F__law_take (fCons (fVar 0) (fCons (fC (.int 4)) fNil))) (fVar 2))) 
    (sSeq (sAsg (fCall F__law_take (fCons (fVar 0) (fCons (fOp addX (fCall lenF (fCons (fVar 3) fNil)) (fC (.int 1))) fNil))) (hName 6)) 
  (sAsg (fOp addX (fOp addX (fSl (fVar 3) fNoPart (fPart (fVar 6))) (fLst (fCons (fTup (fCons (fVar 5) (fCons (fVar 4) (fCons (fCall F__law_weight (fCons (fVar 0) fNil)) fNil)))) fNil))) (fSl (fVar 3) (fPart (fVar 6)) fNoPart)) (hName 3))) 
    sNext)
def L__law_ties_1 : SF := (sFor (fRng1 (fCons (fVar 4) fNil)) (hName 5) L__law_ties_0)
def m__law_ties : SF := (sSeq (sAsg (fCall F__law_take (fCons (fVar 0) (fCons (fC (.int 4)) fNil))) (hName 2)) 
  (sSeq (sAsg (fLst fNil) (hName 3)) 
  (sSeq (sFor (fRng1 (fCons (fVar 1) fNil)) (hName 4) L__law_ties_1) 
  (sRet (fVar 3)))))
def F__law_ties : FN := fnF 2 7 m__law_ties
abbrev st_law : Stmt := top 35
theorem sc_law : FnScope ["_law_script", "_law_k", "_law_stream_here", "_law_many", "_law_great", "_law_first", "_law_some"] ["_law_script"] (defScope st_law) := ⟨rfl, rfl, rfl, by decide +kernel, rfl, by decide +kernel, by decide +kernel⟩
def C_law_0 : EF := (fLc [some 4, some 2, none] (fRng1 (fCons (fVar 5) fNil)) (hName 2) gYes (fTup (fCons (fVar 2) (fCons (fOp subI (fVar 0) (fC (.int 1))) (fCons (fCall F__law_weight (fCons (fVar 1) fNil)) fNil)))))
def K_law_0 : EF := (fLst (fCons (fTup (fCons (fC (.int 0)) (fCons (fC (.int 1)) (fCons (fTup (fCons (fC (.int 1)) (fCons (fC (.int 55440)) fNil))) fNil)))) fNil))
theorem eK_law_0 (γ : Ga) (M : Sto) : K_law_0 γ M = some (.d (.list [(.tuple [(.int 0), (.int 1), (.tuple [(.int 1), (.int 55440)])])]), M) := rfl
def L_law_0 : SF := (sSeq (sAsg (fCall F__law_stream (fCons (fVar 0) (fCons (fVar 1) fNil))) (hName 2)) 
  (sSeq (sAsg (fOp addX (fC (.int 1)) (fCall F__law_take (fCons (fVar 2) (fCons (fC (.int 9)) fNil)))) (hName 3)) 
  (sSeq (sIf (gNot (gB (fCall F__law_made (fCons (fVar 3) (fCons (fCall F__law_ties (fCons (fVar 2) (fCons (fVar 3) fNil))) fNil))))) 
    (sRet (fC (.bool false))) 
    sNext) 
  (sSeq (sAsg (fOp addX (fC (.int 39)) (fCall F__law_take (fCons (fVar 2) (fCons (fC (.int 2)) fNil)))) (hName 4)) 
  (sSeq (sAsg (fOp addX (fC (.int 1)) (fCall F__law_take (fCons (fVar 2) (fCons (fOp subI (fVar 4) (fC (.int 1))) fNil)))) (hName 5)) 
  (sSeq (sAsg C_law_0 (hName 6)) 
  (sIf (gAnd (gB (fOp (eqX false) (fVar 1) (fC (.int 0)))) (gNot (gB (fCall F__law_made (fCons (fVar 4) (fCons (fOp addX (fVar 6) K_law_0) fNil)))))) 
    (sRet (fC (.bool false))) 
    sNext)))))))
def m_law : SF := (sSeq (sIf (gB (fOp (eqX true) (fC (.int 40)) (fC (.int 40)))) 
    (sRet (fC (.bool false))) 
    sNext) 
  (sSeq (sFor (fRng1 (fCons (fC (.int 4)) fNil)) (hName 1) L_law_0) 
  (sRet (fC (.bool true)))))
def F_law : FN := fnF 1 7 m_law
structure Txt (K : PySem.W.Frag) (mg : Str → Option Value) : Prop where
  hB : Free mg ["bool", "dict", "enumerate", "int", "isinstance", "len", "list", "max", "min", "range", "repr", "sorted", "tuple"]
  c_MOST_ABOVE : ∃ t : Tok, mg "MOST_ABOVE" = some (.int 1000000000000 t)
  c_BELOW : ∃ t : Tok, mg "BELOW" = some (.int 55440 t)
  c_MOST_PLACES : ∃ t : Tok, mg "MOST_PLACES" = some (.int 40 t)
  m_Web : mg "Web" = some (.ref (clOf K "Web"))
  cl_Web : Cls K (clOf K "Web")
  na_Web_ties : NoAttr K (clOf K "Web") "ties"
  na_Web_many : NoAttr K (clOf K "Web") "many"
  na_Web_weights : NoAttr K (clOf K "Web") "weights"
  mm_Web__init : MDef K "Web" "__init__" "Web.__init__" st_Web__init
  mk_Web : PySem.W.makesIn K (clOf K "Web") = true
  kp_Web : PySem.W.keepIn K (.ref (clOf K "Web")) = true
  mm_Web__tie : MDef K "Web" "tie" "Web.tie" st_Web__tie
  d__law_stream : Def K mg "_law_stream" st__law_stream
  d__law_take : Def K mg "_law_take" st__law_take
  d__law_lists : Def K mg "_law_lists" st__law_lists
  d_is_whole : Def K mg "is_whole" st_is_whole
  d_is_row : Def K mg "is_row" st_is_row
  d_common : Def K mg "common" st_common
  d_is_row_of : Def K mg "is_row_of" st_is_row_of
  d_has_amount_numbers : Def K mg "has_amount_numbers" st_has_amount_numbers
  d_is_in_parts : Def K mg "is_in_parts" st_is_in_parts
  d_is_weight : Def K mg "is_weight" st_is_weight
  d_is_place : Def K mg "is_place" st_is_place
  d_are_unlike_places : Def K mg "are_unlike_places" st_are_unlike_places
  d_is_between_places : Def K mg "is_between_places" st_is_between_places
  d_is_tie : Def K mg "is_tie" st_is_tie
  d_kept_ties : Def K mg "kept_ties" st_kept_ties
  d__law_spoil : Def K mg "_law_spoil" st__law_spoil
  d__law_due : Def K mg "_law_due" st__law_due
  d__law_holds : Def K mg "_law_holds" st__law_holds
  d__law_made : Def K mg "_law_made" st__law_made
  d__law_pick : Def K mg "_law_pick" st__law_pick
  d__law_least : Def K mg "_law_least" st__law_least
  d__law_weight : Def K mg "_law_weight" st__law_weight
  d__law_ties : Def K mg "_law_ties" st__law_ties
  d_law : Def K mg "law" st_law
section
variable {P : Program} {w : World} {K : PySem.W.Frag} {mg : Str → Option Value} {base : Heap}
theorem ok__law_stream (T : Txt K mg) : Callee P w K mg base 1 "_law_stream" ["_law_script", "_law_k"] (spM K F__law_stream) :=
  T.d__law_stream.okG (N := ["_law_script", "_law_k", "_law_cell", "_law_mixed"]) (ps := ["_law_script", "_law_k"]) (k := 0) (b := m__law_stream) sc__law_stream (fun _ _ _ _ _ _ us hl => match us, hl with | [_, _], _ => rfl) fun f cdv A outer s H E hr => 
    (ml_cons (ms_if (mt_cmp q_lt (me_var 1) (me_callB (q_len (fun _ => rfl)) (fun _ => T.hB.of "len") boot_len (ma_cons (me_var 0) ma_nil (fun _ => star_Name)))) 
        (ml_cons (ms_set 2 (fun _ => sc__law_stream.nd) (me_ix (q_ix (fun _ => rfl)) (me_var 0) (me_var 1) (fun _ _ => rfl))) 
      (ml_cons (ms_set 3 (fun _ => sc__law_stream.nd) (me_op (q_add (fun _ => rfl)) (me_op (q_add (fun _ => rfl)) (me_op q_mod (me_var 2) me_int) (me_op q_mul (me_var 1) (me_var 1))) me_int)) 
      (ml_cons (ms_if (mt_cmp q_lt (me_var 2) (me_op q_pow me_int me_int)) 
        (ml_one (ms_set 2 (fun _ => sc__law_stream.nd) me_int)) 
        ml_nil) 
      (ml_one (ms_ret (me_new (ma_cons (me_var 2) (ma_cons (me_var 3) ma_nil (fun _ => star_Name)) (fun _ => star_Name)))))))) 
        ml_nil) 
      (ml_one (ms_ret (me_new (ma_cons me_int (ma_cons (me_op (q_add (fun _ => rfl)) (me_op q_mul (me_var 1) (me_var 1)) me_int) ma_nil (fun _ => star_BinOp)) (fun _ => star_Constant))))))
theorem ok__law_take (T : Txt K mg) : Callee P w K mg base 1 "_law_take" ["_law_stream_here", "_law_most"] (spM K F__law_take) :=
  T.d__law_take.okG (N := ["_law_stream_here", "_law_most", "_law_digit"]) (ps := ["_law_stream_here", "_law_most"]) (k := 0) (b := m__law_take) sc__law_take (fun _ _ _ _ _ _ us hl => match us, hl with | [_, _], _ => rfl) fun f cdv A outer s H E hr => 
    (ml_cons (ms_if (mt_cmp (q_eq (fun _ => rfl) (fun _ => hr.units)) (me_ix (q_ix (fun _ => rfl)) (me_var 0) me_int (fun _ _ => rfl)) me_int) 
        (ml_cons (ms_asg (me_op q_mod (me_op (q_add (fun _ => rfl)) (me_op q_mul (me_ix (q_ix (fun _ => rfl)) (me_var 0) me_int (fun _ _ => rfl)) me_int) me_int) me_int) (mg_sub q_set (me_var 0) me_int)) 
      (ml_one (ms_ret (me_op q_mod (me_op q_mod (me_op q_mul (me_ix (q_ix (fun _ => rfl)) (me_var 0) me_int (fun _ _ => rfl)) (me_ix (q_ix (fun _ => rfl)) (me_var 0) me_int (fun _ _ => rfl))) me_int) (me_var 1))))) 
        ml_nil) 
      (ml_cons (ms_set 2 (fun _ => sc__law_take.nd) (me_op q_mod (me_ix (q_ix (fun _ => rfl)) (me_var 0) me_int (fun _ _ => rfl)) (me_var 1))) 
      (ml_cons (ms_asg (me_op q_fdiv (me_ix (q_ix (fun _ => rfl)) (me_var 0) me_int (fun _ _ => rfl)) (me_var 1)) (mg_sub q_set (me_var 0) me_int)) 
      (ml_one (ms_ret (me_var 2))))))
theorem ok__law_lists (T : Txt K mg) : ∀ n : Nat, Callee P w K mg base (n + 1) "_law_lists" ["_law_thing"] (spM K (F__law_lists n))
  | 0 => (T.d__law_lists.okNone (N := ["_law_thing"]) (ps := ["_law_thing"]) (k := 0) sc__law_lists (fun _ _ _ _ _ _ us hl => match us, hl with | [_], _ => rfl)).mono (by decide)
  | n + 1 => (T.d__law_lists.okG (N := ["_law_thing"]) (ps := ["_law_thing"]) (k := n + 1) (b := m__law_lists (F__law_lists n)) sc__law_lists (fun _ _ _ _ _ _ us hl => match us, hl with | [_], _ => rfl) fun f cdv A outer s H E hr => 
    (ml_cons (ms_if (mt_val (me_isiC (T := "tuple") (fun _ => rfl) (by decide) (me_var 0) (fun _ => star_Name) (fun _ => T.hB.of "isinstance") (fun _ => T.hB.of "tuple") boot_tuple)) 
        (ml_one (ms_ret (me_lcN (N' := (["_law_one"] : List Str)) (cap := [none]) (fun _ => rfl) (fun _ => lcsc_of (sc0 := defScope st__law_lists) (N := ["_law_thing"]) rfl rfl (by decide +kernel)) (mi_seq (fun _ => rfl) (me_var 0)) (mg_name 0 (fun _ => (show (["_law_one"] : List Str).Nodup by decide +kernel))) mf_nil (me_call (fun _ => ok__law_lists T n) (fun _ => hr.mono (by omega)) (ma_cons (me_var 0) ma_nil (fun _ => star_Name)))))) 
        ml_nil) 
      (ml_one (ms_ret (me_var 0))))).mono (by omega)
theorem ok_is_whole (T : Txt K mg) : Callee P w K mg base 1 "is_whole" ["thing"] (spM K F_is_whole) :=
  T.d_is_whole.okG (N := ["thing"]) (ps := ["thing"]) (k := 0) (b := m_is_whole) sc_is_whole (fun _ _ _ _ _ _ us hl => match us, hl with | [_], _ => rfl) fun f cdv A outer s H E hr => 
    (ml_one (ms_ret (me_and (me_isiC (T := "int") (fun _ => rfl) (by decide) (me_var 0) (fun _ => star_Name) (fun _ => T.hB.of "isinstance") (fun _ => T.hB.of "int") boot_int) (me_one (me_not (me_isiC (T := "bool") (fun _ => rfl) (by decide) (me_var 0) (fun _ => star_Name) (fun _ => T.hB.of "isinstance") (fun _ => T.hB.of "bool") boot_bool))))))
theorem ok_is_row (T : Txt K mg) : Callee P w K mg base 1 "is_row" ["thing"] (spM K F_is_row) :=
  T.d_is_row.okG (N := ["thing"]) (ps := ["thing"]) (k := 0) (b := m_is_row) sc_is_row (fun _ _ _ _ _ _ us hl => match us, hl with | [_], _ => rfl) fun f cdv A outer s H E hr => 
    (ml_one (ms_ret (me_isi2C (T := "list") (U := "tuple") (fun _ => rfl) (by decide) (by decide) (me_var 0) (fun _ => star_Name) (fun _ => T.hB.of "isinstance") (fun _ => T.hB.of "list") (fun _ => T.hB.of "tuple") boot_list boot_tuple)))
theorem ok_common (T : Txt K mg) : Callee P w K mg base 1 "common" ["one", "other"] (spM K F_common) :=
  T.d_common.okG (N := ["one", "other"]) (ps := ["one", "other"]) (k := 0) (b := m_common) sc_common (fun _ _ _ _ _ _ us hl => match us, hl with | [_, _], _ => rfl) fun f cdv A outer s H E hr => 
    (ml_cons (ms_while (fun _ => PassesOwn.never) (mt_tru (fun _ => rfl) (me_var 1)) (ml_one (ms_par 0 1 (fun _ => rfl) (fun _ => sc_common.nd) (ma_cons (me_var 1) (ma_cons (me_op q_mod (me_var 0) (me_var 1)) ma_nil (fun _ => star_BinOp)) (fun _ => star_Name))))) 
      (ml_one (ms_ret (me_var 0))))
theorem ok_is_row_of (T : Txt K mg) : Callee P w K mg base 2 "is_row_of" ["thing", "length"] (spM K F_is_row_of) :=
  T.d_is_row_of.okG (N := ["thing", "length"]) (ps := ["thing", "length"]) (k := 1) (b := m_is_row_of) sc_is_row_of (fun _ _ _ _ _ _ us hl => match us, hl with | [_, _], _ => rfl) fun f cdv A outer s H E hr => 
    (ml_one (ms_ret (me_and (me_call (fun _ => ok_is_row T) (fun _ => hr.mono (by decide)) (ma_cons (me_var 0) ma_nil (fun _ => star_Name))) (me_one (me_cmp (q_eq (fun _ => rfl) (fun _ => hr.units)) (me_callB (q_len (fun _ => rfl)) (fun _ => T.hB.of "len") boot_len (ma_cons (me_var 0) ma_nil (fun _ => star_Name))) (me_var 1))))))
theorem ok_has_amount_numbers (T : Txt K mg) : Callee P w K mg base 3 "has_amount_numbers" ["thing"] (spM K F_has_amount_numbers) :=
  T.d_has_amount_numbers.okG (N := ["thing"]) (ps := ["thing"]) (k := 2) (b := m_has_amount_numbers) sc_has_amount_numbers (fun _ _ _ _ _ _ us hl => match us, hl with | [_], _ => rfl) fun f cdv A outer s H E hr => 
    (ml_cons (ms_if (mt_w (mw_or (mt_not (mt_val (me_call (fun _ => ok_is_row_of T) (fun _ => hr.mono (by decide)) (ma_cons (me_var 0) (ma_cons me_int ma_nil (fun _ => star_Constant)) (fun _ => star_Name))))) (mw_or (mt_not (mt_val (me_call (fun _ => ok_is_whole T) (fun _ => hr.mono (by decide)) (ma_cons (me_ix (q_ix (fun _ => rfl)) (me_var 0) me_int (fun _ _ => rfl)) ma_nil (fun _ => star_Subscript))))) (mw_or1 (mt_not (mt_val (me_call (fun _ => ok_is_whole T) (fun _ => hr.mono (by decide)) (ma_cons (me_ix (q_ix (fun _ => rfl)) (me_var 0) me_int (fun _ _ => rfl)) ma_nil (fun _ => star_Subscript))))))))) 
        (ml_one (ms_ret me_bl)) 
        ml_nil) 
      (ml_one (ms_ret (me_and (me_cmp q_ge (me_ix (q_ix (fun _ => rfl)) (me_var 0) me_int (fun _ _ => rfl)) me_int) (me_one (me_cmp q_ge (me_ix (q_ix (fun _ => rfl)) (me_var 0) me_int (fun _ _ => rfl)) me_int))))))
theorem ok_is_in_parts (T : Txt K mg) : Callee P w K mg base 4 "is_in_parts" ["thing"] (spM K F_is_in_parts) :=
  T.d_is_in_parts.okG (N := ["thing"]) (ps := ["thing"]) (k := 3) (b := m_is_in_parts) sc_is_in_parts (fun _ _ _ _ _ _ us hl => match us, hl with | [_], _ => rfl) fun f cdv A outer s H E hr => 
    (ml_one (ms_ret (me_and (me_call (fun _ => ok_has_amount_numbers T) (fun _ => hr.mono (by decide)) (ma_cons (me_var 0) ma_nil (fun _ => star_Name))) (me_and (me_cmp (q_eq (fun _ => rfl) (fun _ => hr.units)) (me_op q_mod (me_globI (fun _ => T.c_BELOW)) (me_ix (q_ix (fun _ => rfl)) (me_var 0) me_int (fun _ _ => rfl))) me_int) (me_one (me_cmp (q_eq (fun _ => rfl) (fun _ => hr.units)) (me_call (fun _ => ok_common T) (fun _ => hr.mono (by decide)) (ma_cons (me_ix (q_ix (fun _ => rfl)) (me_var 0) me_int (fun _ _ => rfl)) (ma_cons (me_ix (q_ix (fun _ => rfl)) (me_var 0) me_int (fun _ _ => rfl)) ma_nil (fun _ => star_Subscript)) (fun _ => star_Subscript))) me_int))))))
theorem ok_is_weight (T : Txt K mg) : Callee P w K mg base 5 "is_weight" ["thing"] (spM K F_is_weight) :=
  T.d_is_weight.okG (N := ["thing"]) (ps := ["thing"]) (k := 4) (b := m_is_weight) sc_is_weight (fun _ _ _ _ _ _ us hl => match us, hl with | [_], _ => rfl) fun f cdv A outer s H E hr => 
    (ml_one (ms_ret (me_and (me_call (fun _ => ok_is_in_parts T) (fun _ => hr.mono (by decide)) (ma_cons (me_var 0) ma_nil (fun _ => star_Name))) (me_one (me_cmp q_le (me_ix (q_ix (fun _ => rfl)) (me_var 0) me_int (fun _ _ => rfl)) (me_globI (fun _ => T.c_MOST_ABOVE)))))))
theorem ok_is_place (T : Txt K mg) : Callee P w K mg base 2 "is_place" ["many", "thing"] (spM K F_is_place) :=
  T.d_is_place.okG (N := ["many", "thing"]) (ps := ["many", "thing"]) (k := 1) (b := m_is_place) sc_is_place (fun _ _ _ _ _ _ us hl => match us, hl with | [_, _], _ => rfl) fun f cdv A outer s H E hr => 
    (ml_one (ms_ret (me_and (me_call (fun _ => ok_is_whole T) (fun _ => hr.mono (by decide)) (ma_cons (me_var 1) ma_nil (fun _ => star_Name))) (me_one (me_chain q_le q_lt me_int (me_var 1) (me_var 0))))))
theorem ok_are_unlike_places (T : Txt K mg) : Callee P w K mg base 3 "are_unlike_places" ["many", "i", "j"] (spM K F_are_unlike_places) :=
  T.d_are_unlike_places.okG (N := ["many", "i", "j"]) (ps := ["many", "i", "j"]) (k := 2) (b := m_are_unlike_places) sc_are_unlike_places (fun _ _ _ _ _ _ us hl => match us, hl with | [_, _, _], _ => rfl) fun f cdv A outer s H E hr => 
    (ml_one (ms_ret (me_and (me_call (fun _ => ok_is_place T) (fun _ => hr.mono (by decide)) (ma_cons (me_var 0) (ma_cons (me_var 1) ma_nil (fun _ => star_Name)) (fun _ => star_Name))) (me_and (me_call (fun _ => ok_is_place T) (fun _ => hr.mono (by decide)) (ma_cons (me_var 0) (ma_cons (me_var 2) ma_nil (fun _ => star_Name)) (fun _ => star_Name))) (me_one (me_cmp (q_ne (fun _ => rfl) (fun _ => hr.units)) (me_var 1) (me_var 2)))))))
theorem ok_is_between_places (T : Txt K mg) : Callee P w K mg base 4 "is_between_places" ["many", "thing"] (spM K F_is_between_places) :=
  T.d_is_between_places.okG (N := ["many", "thing"]) (ps := ["many", "thing"]) (k := 3) (b := m_is_between_places) sc_is_between_places (fun _ _ _ _ _ _ us hl => match us, hl with | [_, _], _ => rfl) fun f cdv A outer s H E hr => 
    (ml_one (ms_ret (me_and (me_call (fun _ => ok_is_row_of T) (fun _ => hr.mono (by decide)) (ma_cons (me_var 1) (ma_cons me_int ma_nil (fun _ => star_Constant)) (fun _ => star_Name))) (me_and (me_call (fun _ => ok_are_unlike_places T) (fun _ => hr.mono (by decide)) (ma_cons (me_var 0) (ma_cons (me_ix (q_ix (fun _ => rfl)) (me_var 1) me_int (fun _ _ => rfl)) (ma_cons (me_ix (q_ix (fun _ => rfl)) (me_var 1) me_int (fun _ _ => rfl)) ma_nil (fun _ => star_Subscript)) (fun _ => star_Subscript)) (fun _ => star_Name))) (me_one (me_cmp q_lt (me_ix (q_ix (fun _ => rfl)) (me_var 1) me_int (fun _ _ => rfl)) (me_ix (q_ix (fun _ => rfl)) (me_var 1) me_int (fun _ _ => rfl))))))))
theorem ok_is_tie (T : Txt K mg) : Callee P w K mg base 6 "is_tie" ["many", "thing"] (spM K F_is_tie) :=
  T.d_is_tie.okG (N := ["many", "thing"]) (ps := ["many", "thing"]) (k := 5) (b := m_is_tie) sc_is_tie (fun _ _ _ _ _ _ us hl => match us, hl with | [_, _], _ => rfl) fun f cdv A outer s H E hr => 
    (ml_one (ms_ret (me_and (me_call (fun _ => ok_is_between_places T) (fun _ => hr.mono (by decide)) (ma_cons (me_var 0) (ma_cons (me_var 1) ma_nil (fun _ => star_Name)) (fun _ => star_Name))) (me_one (me_call (fun _ => ok_is_weight T) (fun _ => hr.mono (by decide)) (ma_cons (me_ix (q_ix (fun _ => rfl)) (me_var 1) me_int (fun _ _ => rfl)) ma_nil (fun _ => star_Subscript)))))))
theorem ok_kept_ties (T : Txt K mg) : Callee P w K mg base 7 "kept_ties" ["many", "ties"] (spM K F_kept_ties) :=
  T.d_kept_ties.okG (N := ["many", "ties", "weights", "at", "row"]) (ps := ["many", "ties"]) (k := 6) (b := m_kept_ties) sc_kept_ties (fun _ _ _ _ _ _ us hl => match us, hl with | [_, _], _ => rfl) fun f cdv A outer s H E hr => 
    (ml_cons (ms_if (mt_not (mt_val (me_call (fun _ => ok_is_row T) (fun _ => hr.mono (by decide)) (ma_cons (me_var 1) ma_nil (fun _ => star_Name))))) 
        (ml_one ms_never) 
        ml_nil) 
      (ml_cons (ms_set 2 (fun _ => sc_kept_ties.nd) me_dnewT) 
      (ml_cons (ms_forE (fun _ => PassesOwn.never) (fun _ => rfl) (fun _ => rfl) (fun _ => T.hB.of "enumerate") (ma_cons (me_var 1) ma_nil (fun _ => star_Name)) (mgs_cons (mg_name 3 (fun _ => sc_kept_ties.nd)) (mgs_cons (mg_name 4 (fun _ => sc_kept_ties.nd)) mgs_nil)) 
        (ml_cons (ms_if (mt_w (mw_or (mt_not (mt_val (me_call (fun _ => ok_is_tie T) (fun _ => hr.mono (by decide)) (ma_cons (me_var 0) (ma_cons (me_var 4) ma_nil (fun _ => star_Name)) (fun _ => star_Name))))) (mw_or1 (mt_din (fun _ => hr.u1) (mk_tup (ma_cons (me_ix (q_ix (fun _ => rfl)) (me_var 4) me_int (fun _ _ => rfl)) (ma_cons (me_ix (q_ix (fun _ => rfl)) (me_var 4) me_int (fun _ _ => rfl)) ma_nil (fun _ => star_Subscript)) (fun _ => star_Subscript))) (me_var 2))))) 
        (ml_one ms_never) 
        ml_nil) 
      (ml_one (ms_dput (fun _ => hr.u1) (me_var 2) (mk_tup (ma_cons (me_ix (q_ix (fun _ => rfl)) (me_var 4) me_int (fun _ _ => rfl)) (ma_cons (me_ix (q_ix (fun _ => rfl)) (me_var 4) me_int (fun _ _ => rfl)) ma_nil (fun _ => star_Subscript)) (fun _ => star_Subscript))) (me_callT (q_tuple (fun _ => rfl)) (fun _ => T.hB.of "tuple") boot_tuple (ma_cons (me_ix (q_ix (fun _ => rfl)) (me_var 4) me_int (fun _ _ => rfl)) ma_nil (fun _ => star_Subscript))))))) 
      (ml_one (ms_ret (me_callT (q_tuple (fun _ => rfl)) (fun _ => T.hB.of "tuple") boot_tuple (ma_cons (me_lc (N' := (["i", "j", "weight"] : List Str)) (cap := [none, none, none]) (fun _ => rfl) (fun _ => lcsc_of (sc0 := defScope st_kept_ties) (N := ["many", "ties", "weights", "at", "row"]) rfl rfl (by decide +kernel)) (mi_seq (fun _ => rfl) (me_sortI (fun _ => rfl) (fun _ => hr.units2) (fun _ => rfl) (fun _ => T.hB.of "sorted") (me_var 2))) (mg_tup (fun _ => rfl) (fun _ => rfl) (mgs_cons (mg_tup (fun _ => rfl) (fun _ => rfl) (mgs_cons (mg_name 0 (fun _ => (show (["i", "j", "weight"] : List Str).Nodup by decide +kernel))) (mgs_cons (mg_name 1 (fun _ => (show (["i", "j", "weight"] : List Str).Nodup by decide +kernel))) mgs_nil))) (mgs_cons (mg_name 2 (fun _ => (show (["i", "j", "weight"] : List Str).Nodup by decide +kernel))) mgs_nil))) (mf_one (mt_cmp q_gt (me_ix (q_ix (fun _ => rfl)) (me_var 2) me_int (fun _ _ => rfl)) me_int)) (me_tup (ma_cons (me_var 0) (ma_cons (me_var 1) (ma_cons (me_var 2) ma_nil (fun _ => star_Name)) (fun _ => star_Name)) (fun _ => star_Name)))) ma_nil (fun _ => star_ListComp))))))))
theorem ok_Web__init (T : Txt K mg) : ICallee P w K mg base 8 "Web" ["self", "many", "ties"] (spM K F_Web__init) :=
  T.mm_Web__init.okI (N := ["self", "many", "ties"]) (ps := ["self", "many", "ties"]) (k := 7) (b := m_Web__init) T.mk_Web T.kp_Web T.m_Web sc_Web__init (fun _ _ _ _ _ _ us hl => match us, hl with | [_, _, _], _ => rfl) fun f cdv A outer s H E hr => 
    (ml_cons (ms_if (mt_w (mw_or (mt_not (mt_val (me_call (fun _ => ok_is_whole T) (fun _ => hr.mono (by decide)) (ma_cons (me_var 1) ma_nil (fun _ => star_Name))))) (mw_or (mt_cmp q_lt (me_var 1) me_int) (mw_or1 (mt_cmp q_gt (me_var 1) (me_globI (fun _ => T.c_MOST_PLACES))))))) 
        (ml_one ms_never) 
        ml_nil) 
      (ml_cons (ms_fld (nm := "Web") (fun _ => rfl) T.cl_Web T.na_Web_many (me_var 0) (me_var 1)) 
      (ml_cons (ms_fld (nm := "Web") (fun _ => rfl) T.cl_Web T.na_Web_ties (me_var 0) (me_call (fun _ => ok_kept_ties T) (fun _ => hr.mono (by decide)) (ma_cons (me_var 1) (ma_cons (me_var 2) ma_nil (fun _ => star_Name)) (fun _ => star_Name)))) 
      (ml_one (ms_fld (nm := "Web") (fun _ => rfl) T.cl_Web T.na_Web_weights (me_var 0) (me_dcT (N' := (["i", "j", "weight"] : List Str)) (cap := [none, none, none]) (fun _ => hr.u0) (fun _ => rfl) (fun _ => lcsc_of (sc0 := defScope st_Web__init) (N := ["self", "many", "ties"]) rfl rfl (by decide +kernel)) (mi_seq (fun _ => rfl) (me_fld (nm := "Web") (fun _ => rfl) T.cl_Web T.na_Web_ties (me_var 0))) (mg_tup (fun _ => rfl) (fun _ => rfl) (mgs_cons (mg_name 0 (fun _ => (show (["i", "j", "weight"] : List Str).Nodup by decide +kernel))) (mgs_cons (mg_name 1 (fun _ => (show (["i", "j", "weight"] : List Str).Nodup by decide +kernel))) (mgs_cons (mg_name 2 (fun _ => (show (["i", "j", "weight"] : List Str).Nodup by decide +kernel))) mgs_nil)))) mf_nil (mk_tup (ma_cons (me_var 0) (ma_cons (me_var 1) ma_nil (fun _ => star_Name)) (fun _ => star_Name))) (me_var 2)))))))
theorem ok__law_spoil (T : Txt K mg) : ∀ n : Nat, Callee P w K mg base (n + 1) "_law_spoil" ["_law_thing"] (spM K (F__law_spoil n))
  | 0 => (T.d__law_spoil.okNone (N := ["_law_thing", "_law_inner"]) (ps := ["_law_thing"]) (k := 0) sc__law_spoil (fun _ _ _ _ _ _ us hl => match us, hl with | [_], _ => rfl)).mono (by decide)
  | n + 1 => (T.d__law_spoil.okG (N := ["_law_thing", "_law_inner"]) (ps := ["_law_thing"]) (k := n + 1) (b := m__law_spoil (F__law_spoil n)) sc__law_spoil (fun _ _ _ _ _ _ us hl => match us, hl with | [_], _ => rfl) fun f cdv A outer s H E hr => 
    (ml_cons (ms_forP (fun _ => PassesOwn.never) (fun _ => rfl) (fun _ => rfl) (me_callT (q_listN (fun _ => rfl)) (fun _ => T.hB.of "list") boot_list (ma_cons (me_var 0) ma_nil (fun _ => star_Name))) (mg_name 1 (fun _ => sc__law_spoil.nd)) 
        (ml_one (ms_if (mt_val (me_isiC (T := "list") (fun _ => rfl) (by decide) (me_var 1) (fun _ => star_Name) (fun _ => T.hB.of "isinstance") (fun _ => T.hB.of "list") boot_list)) 
        (ml_one (ms_expr (me_call (fun _ => ok__law_spoil T n) (fun _ => hr.mono (by omega)) (ma_cons (me_var 1) ma_nil (fun _ => star_Name))))) 
        ml_nil))) 
      (ml_one (ms_expr (me_append (fun _ => rfl) (me_var 0) (ma_cons me_int ma_nil (fun _ => star_Constant))))))).mono (by omega)
theorem ok__law_due (T : Txt K mg) : Callee P w K mg base 1 "_law_due" ["_law_ties_here"] (spM K F__law_due) :=
  T.d__law_due.okG (N := ["_law_ties_here"]) (ps := ["_law_ties_here"]) (k := 0) (b := m__law_due) sc__law_due (fun _ _ _ _ _ _ us hl => match us, hl with | [_], _ => rfl) fun f cdv A outer s H E hr => 
    (ml_one (ms_ret (me_callT (q_tuple (fun _ => rfl)) (fun _ => T.hB.of "tuple") boot_tuple (ma_cons (me_callB (q_sort2 (fun _ => rfl) (fun _ => hr.units2)) (fun _ => T.hB.of "sorted") boot_sorted (ma_cons (me_lc (N' := (["_law_one"] : List Str)) (cap := [none]) (fun _ => rfl) (fun _ => lcsc_of (sc0 := defScope st__law_due) (N := ["_law_ties_here"]) rfl rfl (by decide +kernel)) (mi_seq (fun _ => rfl) (me_var 0)) (mg_name 0 (fun _ => (show (["_law_one"] : List Str).Nodup by decide +kernel))) (mf_one (mt_cmp (q_ne (fun _ => rfl) (fun _ => hr.units)) (me_ix (q_ix (fun _ => rfl)) (me_var 0) me_int (fun _ _ => rfl)) (me_tup (ma_cons me_int (ma_cons me_int ma_nil (fun _ => star_Constant)) (fun _ => star_Constant))))) (me_var 0)) ma_nil (fun _ => star_ListComp))) ma_nil (fun _ => star_Call)))))
theorem ok_Web__tie (T : Txt K mg) : MCallee P w K mg base 1 "Web" "tie" ["self", "i", "j"] (spM K F_Web__tie) :=
  T.mm_Web__tie.okM (N := ["self", "i", "j"]) (ps := ["self", "i", "j"]) (k := 0) (b := m_Web__tie) sc_Web__tie (fun _ _ _ _ _ _ us hl => match us, hl with | [_, _, _], _ => rfl) fun f cdv A outer s H E hr => 
    (ml_one (ms_ret (me_dget2 (fun _ => hr.u1) (me_fld (nm := "Web") (fun _ => rfl) T.cl_Web T.na_Web_weights (me_var 0)) (mk_tup (ma_cons (me_callB (q_min2 (fun _ => rfl)) (fun _ => T.hB.of "min") boot_min (ma_cons (me_var 1) (ma_cons (me_var 2) ma_nil (fun _ => star_Name)) (fun _ => star_Name))) (ma_cons (me_callB (q_max2 (fun _ => rfl)) (fun _ => T.hB.of "max") boot_max (ma_cons (me_var 1) (ma_cons (me_var 2) ma_nil (fun _ => star_Name)) (fun _ => star_Name))) ma_nil (fun _ => star_Call)) (fun _ => star_Call))) (me_tup (ma_cons me_int (ma_cons me_int ma_nil (fun _ => star_Constant)) (fun _ => star_Constant))) (fun _ => star_Tuple) (fun _ => star_Tuple))))
theorem ok__law_holds (T : Txt K mg) : Callee P w K mg base 2 "_law_holds" ["_law_web", "_law_many", "_law_ties_here"] (spM K F__law_holds) :=
  T.d__law_holds.okG (N := ["_law_web", "_law_many", "_law_ties_here", "_law_due_here", "_law_weights", "_law_j", "_law_i", "_law_own"]) (ps := ["_law_web", "_law_many", "_law_ties_here"]) (k := 1) (b := m__law_holds) sc__law_holds (fun _ _ _ _ _ _ us hl => match us, hl with | [_, _, _], _ => rfl) fun f cdv A outer s H E hr => 
    (ml_cons (ms_set 3 (fun _ => sc__law_holds.nd) (me_call (fun _ => ok__law_due T) (fun _ => hr.mono (by decide)) (ma_cons (me_var 2) ma_nil (fun _ => star_Name)))) 
      (ml_cons (ms_if (mt_cmp (q_ne (fun _ => rfl) (fun _ => hr.units)) (me_callB (q_reprC (fun _ => rfl) (fun _ => hr.gd) (fun _ => hr.u200)) (fun _ => T.hB.of "repr") boot_repr (ma_cons (me_tup (ma_cons (me_fld (nm := "Web") (fun _ => rfl) T.cl_Web T.na_Web_many (me_var 0)) (ma_cons (me_fld (nm := "Web") (fun _ => rfl) T.cl_Web T.na_Web_ties (me_var 0)) ma_nil (fun _ => star_Attribute)) (fun _ => star_Attribute))) ma_nil (fun _ => star_Tuple))) (me_callB (q_reprC (fun _ => rfl) (fun _ => hr.gd) (fun _ => hr.u200)) (fun _ => T.hB.of "repr") boot_repr (ma_cons (me_tup (ma_cons (me_var 1) (ma_cons (me_var 3) ma_nil (fun _ => star_Name)) (fun _ => star_Name))) ma_nil (fun _ => star_Tuple)))) 
        (ml_one (ms_ret me_bl)) 
        ml_nil) 
      (ml_cons (ms_set 4 (fun _ => sc__law_holds.nd) (me_dl (N' := (["_law_i", "_law_j", "_law_weight_here"] : List Str)) (cap := [none, none, none]) (fun _ => rfl) (fun _ => hr.units2) (fun _ => rfl) (fun _ => T.hB.of "dict") (fun _ => lcsc_of (sc0 := defScope st__law_holds) (N := ["_law_web", "_law_many", "_law_ties_here", "_law_due_here", "_law_weights", "_law_j", "_law_i", "_law_own"]) rfl rfl (by decide +kernel)) (mi_seq (fun _ => rfl) (me_var 3)) (mg_tup (fun _ => rfl) (fun _ => rfl) (mgs_cons (mg_name 0 (fun _ => (show (["_law_i", "_law_j", "_law_weight_here"] : List Str).Nodup by decide +kernel))) (mgs_cons (mg_name 1 (fun _ => (show (["_law_i", "_law_j", "_law_weight_here"] : List Str).Nodup by decide +kernel))) (mgs_cons (mg_name 2 (fun _ => (show (["_law_i", "_law_j", "_law_weight_here"] : List Str).Nodup by decide +kernel))) mgs_nil)))) mf_nil (ma_cons (me_var 0) (ma_cons (me_var 1) ma_nil (fun _ => star_Name)) (fun _ => star_Name)) (me_var 2) (fun _ => star_Name))) 
      (ml_cons (ms_for (fun _ => PassesOwn.never) (fun _ => rfl) (mi_rng1 (fun _ => T.hB.of "range") (ma_cons (me_var 1) ma_nil (fun _ => star_Name))) (mg_name 5 (fun _ => sc__law_holds.nd)) 
        (ml_one (ms_for (fun _ => PassesOwn.never) (fun _ => rfl) (mi_rng1 (fun _ => T.hB.of "range") (ma_cons (me_var 5) ma_nil (fun _ => star_Name))) (mg_name 6 (fun _ => sc__law_holds.nd)) 
        (ml_cons (ms_set 7 (fun _ => sc__law_holds.nd) (me_callB (q_reprC (fun _ => rfl) (fun _ => hr.gd) (fun _ => hr.u200)) (fun _ => T.hB.of "repr") boot_repr (ma_cons (me_dget2 (fun _ => hr.u1) (me_var 4) (mk_tup (ma_cons (me_var 6) (ma_cons (me_var 5) ma_nil (fun _ => star_Name)) (fun _ => star_Name))) (me_tup (ma_cons me_int (ma_cons me_int ma_nil (fun _ => star_Constant)) (fun _ => star_Constant))) (fun _ => star_Tuple) (fun _ => star_Tuple)) ma_nil (fun _ => star_Call)))) 
      (ml_one (ms_if (mt_w (mw_or (mt_cmp (q_ne (fun _ => rfl) (fun _ => hr.units)) (me_callB (q_reprC (fun _ => rfl) (fun _ => hr.gd) (fun _ => hr.u200)) (fun _ => T.hB.of "repr") boot_repr (ma_cons (me_meth (nm := "Web") (fun _ => ok_Web__tie T) (fun _ => rfl) T.cl_Web (fun _ => hr.mono (by decide)) (me_var 0) (ma_cons (me_var 6) (ma_cons (me_var 5) ma_nil (fun _ => star_Name)) (fun _ => star_Name))) ma_nil (fun _ => star_Call))) (me_var 7)) (mw_or1 (mt_cmp (q_ne (fun _ => rfl) (fun _ => hr.units)) (me_callB (q_reprC (fun _ => rfl) (fun _ => hr.gd) (fun _ => hr.u200)) (fun _ => T.hB.of "repr") boot_repr (ma_cons (me_meth (nm := "Web") (fun _ => ok_Web__tie T) (fun _ => rfl) T.cl_Web (fun _ => hr.mono (by decide)) (me_var 0) (ma_cons (me_var 5) (ma_cons (me_var 6) ma_nil (fun _ => star_Name)) (fun _ => star_Name))) ma_nil (fun _ => star_Call))) (me_var 7))))) 
        (ml_one (ms_ret me_bl)) 
        ml_nil)))))) 
      (ml_one (ms_ret me_bl))))))
theorem ok__law_made (T : Txt K mg) : Callee P w K mg base 10 "_law_made" ["_law_many", "_law_ties_here"] (spM K F__law_made) :=
  T.d__law_made.okG (N := ["_law_many", "_law_ties_here", "_law_handed", "_law_kept", "_law_one", "_law_other"]) (ps := ["_law_many", "_law_ties_here"]) (k := 9) (b := m__law_made) sc__law_made (fun _ _ _ _ _ _ us hl => match us, hl with | [_, _], _ => rfl) fun f cdv A outer s H E hr => 
    (ml_cons (ms_set 2 (fun _ => sc__law_made.nd) (me_call (fun _ => ok__law_lists T 4) (fun _ => hr.mono (by decide)) (ma_cons (me_callT (q_tuple (fun _ => rfl)) (fun _ => T.hB.of "tuple") boot_tuple (ma_cons (me_var 1) ma_nil (fun _ => star_Name))) ma_nil (fun _ => star_Call)))) 
      (ml_cons (ms_set 3 (fun _ => sc__law_made.nd) (me_callB (q_reprC (fun _ => rfl) (fun _ => hr.gd) (fun _ => hr.u200)) (fun _ => T.hB.of "repr") boot_repr (ma_cons (me_var 2) ma_nil (fun _ => star_Name)))) 
      (ml_cons (ms_set 4 (fun _ => sc__law_made.nd) (me_make (fun _ => ok_Web__init T) (fun _ => rfl) (fun _ => hr.mono (by decide)) (ma_cons (me_var 0) (ma_cons (me_callT (q_tuple (fun _ => rfl)) (fun _ => T.hB.of "tuple") boot_tuple (ma_cons (me_var 1) ma_nil (fun _ => star_Name))) ma_nil (fun _ => star_Call)) (fun _ => star_Name)))) 
      (ml_cons (ms_set 5 (fun _ => sc__law_made.nd) (me_make (fun _ => ok_Web__init T) (fun _ => rfl) (fun _ => hr.mono (by decide)) (ma_cons (me_var 0) (ma_cons (me_var 2) ma_nil (fun _ => star_Name)) (fun _ => star_Name)))) 
      (ml_cons (ms_if (mt_cmp (q_ne (fun _ => rfl) (fun _ => hr.units)) (me_callB (q_reprC (fun _ => rfl) (fun _ => hr.gd) (fun _ => hr.u200)) (fun _ => T.hB.of "repr") boot_repr (ma_cons (me_var 2) ma_nil (fun _ => star_Name))) (me_var 3)) 
        (ml_one (ms_ret me_bl)) 
        ml_nil) 
      (ml_cons (ms_expr (me_call (fun _ => ok__law_spoil T 4) (fun _ => hr.mono (by decide)) (ma_cons (me_var 2) ma_nil (fun _ => star_Name)))) 
      (ml_one (ms_ret (me_and (me_call (fun _ => ok__law_holds T) (fun _ => hr.mono (by decide)) (ma_cons (me_var 4) (ma_cons (me_var 0) (ma_cons (me_var 1) ma_nil (fun _ => star_Name)) (fun _ => star_Name)) (fun _ => star_Name))) (me_one (me_call (fun _ => ok__law_holds T) (fun _ => hr.mono (by decide)) (ma_cons (me_var 5) (ma_cons (me_var 0) (ma_cons (me_var 1) ma_nil (fun _ => star_Name)) (fun _ => star_Name)) (fun _ => star_Name)))))))))))))
theorem ok__law_pick (T : Txt K mg) : Callee P w K mg base 2 "_law_pick" ["_law_stream_here", "_law_some"] (spM K F__law_pick) :=
  T.d__law_pick.okG (N := ["_law_stream_here", "_law_some"]) (ps := ["_law_stream_here", "_law_some"]) (k := 1) (b := m__law_pick) sc__law_pick (fun _ _ _ _ _ _ us hl => match us, hl with | [_, _], _ => rfl) fun f cdv A outer s H E hr => 
    (ml_one (ms_ret (me_ix (q_ix (fun _ => rfl)) (me_var 1) (me_call (fun _ => ok__law_take T) (fun _ => hr.mono (by decide)) (ma_cons (me_var 0) (ma_cons (me_callB (q_len (fun _ => rfl)) (fun _ => T.hB.of "len") boot_len (ma_cons (me_var 1) ma_nil (fun _ => star_Name))) ma_nil (fun _ => star_Call)) (fun _ => star_Name))) (fun _ _ => rfl))))
theorem ok__law_least (T : Txt K mg) : Callee P w K mg base 1 "_law_least" ["_law_above", "_law_below"] (spM K F__law_least) :=
  T.d__law_least.okG (N := ["_law_above", "_law_below", "_law_one", "_law_other"]) (ps := ["_law_above", "_law_below"]) (k := 0) (b := m__law_least) sc__law_least (fun _ _ _ _ _ _ us hl => match us, hl with | [_, _], _ => rfl) fun f cdv A outer s H E hr => 
    (ml_cons (ms_set 2 (fun _ => sc__law_least.nd) (me_var 0)) 
      (ml_cons (ms_set 3 (fun _ => sc__law_least.nd) (me_var 1)) 
      (ml_cons (ms_while (fun _ => PassesOwn.never) (mt_cmp q_gt (me_var 3) me_int) (ml_one (ms_par 2 3 (fun _ => rfl) (fun _ => sc__law_least.nd) (ma_cons (me_var 3) (ma_cons (me_op q_mod (me_var 2) (me_var 3)) ma_nil (fun _ => star_BinOp)) (fun _ => star_Name))))) 
      (ml_one (ms_ret (me_tup (ma_cons (me_op q_fdiv (me_var 0) (me_var 2)) (ma_cons (me_op q_fdiv (me_var 1) (me_var 2)) ma_nil (fun _ => star_BinOp)) (fun _ => star_BinOp))))))))
theorem ok__law_weight (T : Txt K mg) : Callee P w K mg base 3 "_law_weight" ["_law_stream_here"] (spM K F__law_weight) :=
  T.d__law_weight.okG (N := ["_law_stream_here", "_law_kind", "_law_below", "_law_above"]) (ps := ["_law_stream_here"]) (k := 2) (b := m__law_weight) sc__law_weight (fun _ _ _ _ _ _ us hl => match us, hl with | [_], _ => rfl) fun f cdv A outer s H E hr => 
    (ml_cons (ms_set 1 (fun _ => sc__law_weight.nd) (me_call (fun _ => ok__law_take T) (fun _ => hr.mono (by decide)) (ma_cons (me_var 0) (ma_cons me_int ma_nil (fun _ => star_Constant)) (fun _ => star_Name)))) 
      (ml_cons (ms_if (mt_cmp q_lt (me_var 1) me_int) 
        (ml_one (ms_ret (me_ix (q_ix (fun _ => rfl)) (me_lst (ma_cons (me_tup (ma_cons me_int (ma_cons me_int ma_nil (fun _ => star_Constant)) (fun _ => star_Constant))) (ma_cons (me_tup (ma_cons me_int (ma_cons me_int ma_nil (fun _ => star_Constant)) (fun _ => star_Constant))) (ma_cons (me_tup (ma_cons me_int (ma_cons me_int ma_nil (fun _ => star_Constant)) (fun _ => star_Constant))) (ma_cons (me_tup (ma_cons me_int (ma_cons me_int ma_nil (fun _ => star_Constant)) (fun _ => star_Constant))) (ma_cons (me_tup (ma_cons me_int (ma_cons me_int ma_nil (fun _ => star_Constant)) (fun _ => star_Constant))) (ma_cons (me_tup (ma_cons me_int (ma_cons me_int ma_nil (fun _ => star_Constant)) (fun _ => star_Constant))) ma_nil (fun _ => star_Tuple)) (fun _ => star_Tuple)) (fun _ => star_Tuple)) (fun _ => star_Tuple)) (fun _ => star_Tuple)) (fun _ => star_Tuple))) (me_var 1) (fun _ _ => rfl)))) 
        ml_nil) 
      (ml_cons (ms_set 2 (fun _ => sc__law_weight.nd) (me_call (fun _ => ok__law_pick T) (fun _ => hr.mono (by decide)) (ma_cons (me_var 0) (ma_cons (me_lst (ma_cons me_int (ma_cons me_int (ma_cons me_int (ma_cons me_int (ma_cons me_int (ma_cons me_int (ma_cons me_int (ma_cons me_int (ma_cons me_int (ma_cons me_int (ma_cons me_int (ma_cons me_int (ma_cons me_int (ma_cons me_int (ma_cons me_int (ma_cons me_int ma_nil (fun _ => star_Constant)) (fun _ => star_Constant)) (fun _ => star_Constant)) (fun _ => star_Constant)) (fun _ => star_Constant)) (fun _ => star_Constant)) (fun _ => star_Constant)) (fun _ => star_Constant)) (fun _ => star_Constant)) (fun _ => star_Constant)) (fun _ => star_Constant)) (fun _ => star_Constant)) (fun _ => star_Constant)) (fun _ => star_Constant)) (fun _ => star_Constant)) (fun _ => star_Constant))) ma_nil (fun _ => star_List)) (fun _ => star_Name)))) 
      (ml_cons (ms_set 3 (fun _ => sc__law_weight.nd) (me_call (fun _ => ok__law_take T) (fun _ => hr.mono (by decide)) (ma_cons (me_var 0) (ma_cons me_int ma_nil (fun _ => star_Constant)) (fun _ => star_Name)))) 
      (ml_cons (ms_if (mt_cmp (q_eq (fun _ => rfl) (fun _ => hr.units)) (me_var 1) me_int) 
        (ml_one (ms_set 3 (fun _ => sc__law_weight.nd) (me_ix (q_ix (fun _ => rfl)) (me_lst (ma_cons (me_op q_pow me_int me_int) (ma_cons (me_op q_sub (me_op q_pow me_int me_int) me_int) (ma_cons me_int (ma_cons (me_op (q_add (fun _ => rfl)) (me_op q_pow me_int me_int) (me_call (fun _ => ok__law_take T) (fun _ => hr.mono (by decide)) (ma_cons (me_var 0) (ma_cons me_int ma_nil (fun _ => star_Constant)) (fun _ => star_Name)))) ma_nil (fun _ => star_BinOp)) (fun _ => star_Constant)) (fun _ => star_BinOp)) (fun _ => star_BinOp))) (me_call (fun _ => ok__law_take T) (fun _ => hr.mono (by decide)) (ma_cons (me_var 0) (ma_cons me_int ma_nil (fun _ => star_Constant)) (fun _ => star_Name))) (fun _ _ => rfl)))) 
        ml_nil) 
      (ml_one (ms_ret (me_call (fun _ => ok__law_least T) (fun _ => hr.mono (by decide)) (ma_cons (me_var 3) (ma_cons (me_var 2) ma_nil (fun _ => star_Name)) (fun _ => star_Name))))))))))
theorem ok__law_ties (T : Txt K mg) : Callee P w K mg base 4 "_law_ties" ["_law_stream_here", "_law_many"] (spM K F__law_ties) :=
  T.d__law_ties.okG (N := ["_law_stream_here", "_law_many", "_law_share", "_law_found", "_law_j", "_law_i", "_law_at"]) (ps := ["_law_stream_here", "_law_many"]) (k := 3) (b := m__law_ties) sc__law_ties (fun _ _ _ _ _ _ us hl => match us, hl with | [_, _], _ => rfl) fun f cdv A outer s H E hr => 
    (ml_cons (ms_set 2 (fun _ => sc__law_ties.nd) (me_call (fun _ => ok__law_take T) (fun _ => hr.mono (by decide)) (ma_cons (me_var 0) (ma_cons me_int ma_nil (fun _ => star_Constant)) (fun _ => star_Name)))) 
      (ml_cons (ms_set 3 (fun _ => sc__law_ties.nd) (me_lst ma_nil)) 
      (ml_cons (ms_for (fun _ => PassesOwn.never) (fun _ => rfl) (mi_rng1 (fun _ => T.hB.of "range") (ma_cons (me_var 1) ma_nil (fun _ => star_Name))) (mg_name 4 (fun _ => sc__law_ties.nd)) 
        (ml_one (ms_for (fun _ => PassesOwn.never) (fun _ => rfl) (mi_rng1 (fun _ => T.hB.of "range") (ma_cons (me_var 4) ma_nil (fun _ => star_Name))) (mg_name 5 (fun _ => sc__law_ties.nd)) 
        (ml_one (ms_if (mt_cmp q_lt (me_call (fun _ => ok__law_take T) (fun _ => hr.mono (by decide)) (ma_cons (me_var 0) (ma_cons me_int ma_nil (fun _ => star_Constant)) (fun _ => star_Name))) (me_var 2)) 
        (ml_cons (ms_set 6 (fun _ => sc__law_ties.nd) (me_call (fun _ => ok__law_take T) (fun _ => hr.mono (by decide)) (ma_cons (me_var 0) (ma_cons (me_op (q_add (fun _ => rfl)) (me_callB (q_len (fun _ => rfl)) (fun _ => T.hB.of "len") boot_len (ma_cons (me_var 3) ma_nil (fun _ => star_Name))) me_int) ma_nil (fun _ => star_BinOp)) (fun _ => star_Name)))) 
      (ml_one (ms_set 3 (fun _ => sc__law_ties.nd) (me_op (q_add (fun _ => rfl)) (me_op (q_add (fun _ => rfl)) (me_sl (fun _ => rfl) (me_var 3) mo_none (mo_some (me_var 6))) (me_lst (ma_cons (me_tup (ma_cons (me_var 5) (ma_cons (me_var 4) (ma_cons (me_call (fun _ => ok__law_weight T) (fun _ => hr.mono (by decide)) (ma_cons (me_var 0) ma_nil (fun _ => star_Name))) ma_nil (fun _ => star_Call)) (fun _ => star_Name)) (fun _ => star_Name))) ma_nil (fun _ => star_Tuple)))) (me_sl (fun _ => rfl) (me_var 3) (mo_some (me_var 6)) mo_none))))) 
        ml_nil))))) 
      (ml_one (ms_ret (me_var 3))))))
theorem fn_law (T : Txt K mg) : ∃ f fd, mg "law" = some (.ref f) ∧ (∀ (s : Shared) (u : Value), BindsTo s fd ⟨[u], []⟩ [("_law_script", u)]) ∧ ∀ base, FnOk P w K mg base CX0 11 f fd ["_law_script"] (spM K F_law) :=
  T.d_law.okLG (N := ["_law_script", "_law_k", "_law_stream_here", "_law_many", "_law_great", "_law_first", "_law_some"]) (k := 10) (b := m_law) sc_law rfl (fun _ _ _ _ _ _ us hl => match us, hl with | [_], _ => rfl) fun base f cdv A outer s H E hr => 
    (ml_cons (ms_if (mt_cmp (q_ne (fun _ => rfl) (fun _ => hr.units)) (me_globI (fun _ => T.c_MOST_PLACES)) me_int) 
        (ml_one (ms_ret me_bl)) 
        ml_nil) 
      (ml_cons (ms_for (fun _ => PassesOwn.never) (fun _ => rfl) (mi_rng1 (fun _ => T.hB.of "range") (ma_cons me_int ma_nil (fun _ => star_Constant))) (mg_name 1 (fun _ => sc_law.nd)) 
        (ml_cons (ms_set 2 (fun _ => sc_law.nd) (me_call (fun _ => ok__law_stream T) (fun _ => hr.mono (by decide)) (ma_cons (me_var 0) (ma_cons (me_var 1) ma_nil (fun _ => star_Name)) (fun _ => star_Name)))) 
      (ml_cons (ms_set 3 (fun _ => sc_law.nd) (me_op (q_add (fun _ => rfl)) me_int (me_call (fun _ => ok__law_take T) (fun _ => hr.mono (by decide)) (ma_cons (me_var 2) (ma_cons me_int ma_nil (fun _ => star_Constant)) (fun _ => star_Name))))) 
      (ml_cons (ms_if (mt_not (mt_val (me_call (fun _ => ok__law_made T) (fun _ => hr.mono (by decide)) (ma_cons (me_var 3) (ma_cons (me_call (fun _ => ok__law_ties T) (fun _ => hr.mono (by decide)) (ma_cons (me_var 2) (ma_cons (me_var 3) ma_nil (fun _ => star_Name)) (fun _ => star_Name))) ma_nil (fun _ => star_Call)) (fun _ => star_Name))))) 
        (ml_one (ms_ret me_bl)) 
        ml_nil) 
      (ml_cons (ms_set 4 (fun _ => sc_law.nd) (me_op (q_add (fun _ => rfl)) me_int (me_call (fun _ => ok__law_take T) (fun _ => hr.mono (by decide)) (ma_cons (me_var 2) (ma_cons me_int ma_nil (fun _ => star_Constant)) (fun _ => star_Name))))) 
      (ml_cons (ms_set 5 (fun _ => sc_law.nd) (me_op (q_add (fun _ => rfl)) me_int (me_call (fun _ => ok__law_take T) (fun _ => hr.mono (by decide)) (ma_cons (me_var 2) (ma_cons (me_op q_sub (me_var 4) me_int) ma_nil (fun _ => star_BinOp)) (fun _ => star_Name))))) 
      (ml_cons (ms_setLc 6 (fun _ => sc_law.nd) (N' := (["_law_great", "_law_stream_here", "_law_place"] : List Str)) (cap := [some 4, some 2, none]) (fun _ => rfl) (fun _ => lcsc_of (sc0 := defScope st_law) (N := ["_law_script", "_law_k", "_law_stream_here", "_law_many", "_law_great", "_law_first", "_law_some"]) rfl rfl (by decide +kernel)) (mi_rng1 (fun _ => T.hB.of "range") (ma_cons (me_var 5) ma_nil (fun _ => star_Name))) (mg_name 2 (fun _ => (show (["_law_great", "_law_stream_here", "_law_place"] : List Str).Nodup by decide +kernel))) mf_nil (me_tup (ma_cons (me_var 2) (ma_cons (me_op q_sub (me_var 0) me_int) (ma_cons (me_call (fun _ => ok__law_weight T) (fun _ => hr.mono (by decide)) (ma_cons (me_var 1) ma_nil (fun _ => star_Name))) ma_nil (fun _ => star_Call)) (fun _ => star_BinOp)) (fun _ => star_Name)))) 
      (ml_one (ms_if (mt_w (mw_and (mt_cmp (q_eq (fun _ => rfl) (fun _ => hr.units)) (me_var 1) me_int) (mw_and1 (mt_not (mt_val (me_call (fun _ => ok__law_made T) (fun _ => hr.mono (by decide)) (ma_cons (me_var 4) (ma_cons (me_op (q_add (fun _ => rfl)) (me_var 6) (me_lst (ma_cons (me_tup (ma_cons me_int (ma_cons me_int (ma_cons (me_tup (ma_cons me_int (ma_cons me_int ma_nil (fun _ => star_Constant)) (fun _ => star_Constant))) ma_nil (fun _ => star_Tuple)) (fun _ => star_Constant)) (fun _ => star_Constant))) ma_nil (fun _ => star_Tuple)))) ma_nil (fun _ => star_BinOp)) (fun _ => star_Name)))))))) 
        (ml_one (ms_ret me_bl)) 
        ml_nil))))))))) 
      (ml_one (ms_ret me_bl))))
theorem txt_mk {h : Heap} {t_MOST_ABOVE : Tok} {t_BELOW : Tok} {t_MOST_PLACES : Tok} {C_Web : Addr} {f_Web__init : Addr} {od_Web__init an_Web__init : Option Addr} {sl_Web__init : Array (Option Value)} {oc_Web__init kV_Web__init dc_Web__init pm_Web__init cd_Web__init ct_Web__init : Value} {f_Web__tie : Addr} {od_Web__tie an_Web__tie : Option Addr} {sl_Web__tie : Array (Option Value)} {oc_Web__tie kV_Web__tie dc_Web__tie pm_Web__tie cd_Web__tie ct_Web__tie : Value} {f__law_stream : Addr} {od__law_stream an__law_stream : Option Addr} {sl__law_stream : Array (Option Value)} {oc__law_stream kV__law_stream dc__law_stream pm__law_stream cd__law_stream ct__law_stream : Value} {f__law_take : Addr} {od__law_take an__law_take : Option Addr} {sl__law_take : Array (Option Value)} {oc__law_take kV__law_take dc__law_take pm__law_take cd__law_take ct__law_take : Value} {f__law_lists : Addr} {od__law_lists an__law_lists : Option Addr} {sl__law_lists : Array (Option Value)} {oc__law_lists kV__law_lists dc__law_lists pm__law_lists cd__law_lists ct__law_lists : Value} {f_is_whole : Addr} {od_is_whole an_is_whole : Option Addr} {sl_is_whole : Array (Option Value)} {oc_is_whole kV_is_whole dc_is_whole pm_is_whole cd_is_whole ct_is_whole : Value} {f_is_row : Addr} {od_is_row an_is_row : Option Addr} {sl_is_row : Array (Option Value)} {oc_is_row kV_is_row dc_is_row pm_is_row cd_is_row ct_is_row : Value} {f_common : Addr} {od_common an_common : Option Addr} {sl_common : Array (Option Value)} {oc_common kV_common dc_common pm_common cd_common ct_common : Value} {f_is_row_of : Addr} {od_is_row_of an_is_row_of : Option Addr} {sl_is_row_of : Array (Option Value)} {oc_is_row_of kV_is_row_of dc_is_row_of pm_is_row_of cd_is_row_of ct_is_row_of : Value} {f_has_amount_numbers : Addr} {od_has_amount_numbers an_has_amount_numbers : Option Addr} {sl_has_amount_numbers : Array (Option Value)} {oc_has_amount_numbers kV_has_amount_numbers dc_has_amount_numbers pm_has_amount_numbers cd_has_amount_numbers ct_has_amount_numbers : Value} {f_is_in_parts : Addr} {od_is_in_parts an_is_in_parts : Option Addr} {sl_is_in_parts : Array (Option Value)} {oc_is_in_parts kV_is_in_parts dc_is_in_parts pm_is_in_parts cd_is_in_parts ct_is_in_parts : Value} {f_is_weight : Addr} {od_is_weight an_is_weight : Option Addr} {sl_is_weight : Array (Option Value)} {oc_is_weight kV_is_weight dc_is_weight pm_is_weight cd_is_weight ct_is_weight : Value} {f_is_place : Addr} {od_is_place an_is_place : Option Addr} {sl_is_place : Array (Option Value)} {oc_is_place kV_is_place dc_is_place pm_is_place cd_is_place ct_is_place : Value} {f_are_unlike_places : Addr} {od_are_unlike_places an_are_unlike_places : Option Addr} {sl_are_unlike_places : Array (Option Value)} {oc_are_unlike_places kV_are_unlike_places dc_are_unlike_places pm_are_unlike_places cd_are_unlike_places ct_are_unlike_places : Value} {f_is_between_places : Addr} {od_is_between_places an_is_between_places : Option Addr} {sl_is_between_places : Array (Option Value)} {oc_is_between_places kV_is_between_places dc_is_between_places pm_is_between_places cd_is_between_places ct_is_between_places : Value} {f_is_tie : Addr} {od_is_tie an_is_tie : Option Addr} {sl_is_tie : Array (Option Value)} {oc_is_tie kV_is_tie dc_is_tie pm_is_tie cd_is_tie ct_is_tie : Value} {f_kept_ties : Addr} {od_kept_ties an_kept_ties : Option Addr} {sl_kept_ties : Array (Option Value)} {oc_kept_ties kV_kept_ties dc_kept_ties pm_kept_ties cd_kept_ties ct_kept_ties : Value} {f__law_spoil : Addr} {od__law_spoil an__law_spoil : Option Addr} {sl__law_spoil : Array (Option Value)} {oc__law_spoil kV__law_spoil dc__law_spoil pm__law_spoil cd__law_spoil ct__law_spoil : Value} {f__law_due : Addr} {od__law_due an__law_due : Option Addr} {sl__law_due : Array (Option Value)} {oc__law_due kV__law_due dc__law_due pm__law_due cd__law_due ct__law_due : Value} {f__law_holds : Addr} {od__law_holds an__law_holds : Option Addr} {sl__law_holds : Array (Option Value)} {oc__law_holds kV__law_holds dc__law_holds pm__law_holds cd__law_holds ct__law_holds : Value} {f__law_made : Addr} {od__law_made an__law_made : Option Addr} {sl__law_made : Array (Option Value)} {oc__law_made kV__law_made dc__law_made pm__law_made cd__law_made ct__law_made : Value} {f__law_pick : Addr} {od__law_pick an__law_pick : Option Addr} {sl__law_pick : Array (Option Value)} {oc__law_pick kV__law_pick dc__law_pick pm__law_pick cd__law_pick ct__law_pick : Value} {f__law_least : Addr} {od__law_least an__law_least : Option Addr} {sl__law_least : Array (Option Value)} {oc__law_least kV__law_least dc__law_least pm__law_least cd__law_least ct__law_least : Value} {f__law_weight : Addr} {od__law_weight an__law_weight : Option Addr} {sl__law_weight : Array (Option Value)} {oc__law_weight kV__law_weight dc__law_weight pm__law_weight cd__law_weight ct__law_weight : Value} {f__law_ties : Addr} {od__law_ties an__law_ties : Option Addr} {sl__law_ties : Array (Option Value)} {oc__law_ties kV__law_ties dc__law_ties pm__law_ties cd__law_ties ct__law_ties : Value} {f_law : Addr} {od_law an_law : Option Addr} {sl_law : Array (Option Value)} {oc_law kV_law dc_law pm_law cd_law ct_law : Value} (X : K.In h) (G : h.Ns mainGlobals mg) (z_bool : PySem.W.nsIn K mainGlobals "bool" = some none) (z_dict : PySem.W.nsIn K mainGlobals "dict" = some none) (z_enumerate : PySem.W.nsIn K mainGlobals "enumerate" = some none) (z_int : PySem.W.nsIn K mainGlobals "int" = some none) (z_isinstance : PySem.W.nsIn K mainGlobals "isinstance" = some none) (z_len : PySem.W.nsIn K mainGlobals "len" = some none) (z_list : PySem.W.nsIn K mainGlobals "list" = some none) (z_max : PySem.W.nsIn K mainGlobals "max" = some none) (z_min : PySem.W.nsIn K mainGlobals "min" = some none) (z_range : PySem.W.nsIn K mainGlobals "range" = some none) (z_repr : PySem.W.nsIn K mainGlobals "repr" = some none) (z_sorted : PySem.W.nsIn K mainGlobals "sorted" = some none) (z_tuple : PySem.W.nsIn K mainGlobals "tuple" = some none) (u_MOST_ABOVE : PySem.W.nsIn K mainGlobals "MOST_ABOVE" = some (some (.int 1000000000000 t_MOST_ABOVE))) (u_BELOW : PySem.W.nsIn K mainGlobals "BELOW" = some (some (.int 55440 t_BELOW))) (u_MOST_PLACES : PySem.W.nsIn K mainGlobals "MOST_PLACES" = some (some (.int 40 t_MOST_PLACES))) (a_Web : PySem.W.nsIn K mainGlobals "Web" = some (some (.ref C_Web))) (cl_Web_pg : PySem.W.plainGet K C_Web Str.empty = true) (cl_Web_hd : PySem.W.hasDictIn K C_Web = true) (cl_Web_po : PySem.W.plainOver K C_Web = true) (cl_Web_sa : PySem.W.findIn K (.ref C_Web) "__setattr__" = some (some (.builtin "object.__setattr__"))) (na_Web_ties : PySem.W.findIn K (.ref C_Web) "ties" = some none) (na_Web_many : PySem.W.findIn K (.ref C_Web) "many" = some none) (na_Web_weights : PySem.W.findIn K (.ref C_Web) "weights" = some none) (i_Web__init : PySem.W.findIn K (.ref C_Web) "__init__" = some (some (.ref f_Web__init))) (l_Web__init : K.lookup f_Web__init = some ⟨oc_Web__init, od_Web__init, .func (PySem.W.fnOf "__init__" "Web.__init__" (defArgs st_Web__init) (defBody st_Web__init) (defScope st_Web__init) .none kV_Web__init dc_Web__init pm_Web__init an_Web__init cd_Web__init ct_Web__init), sl_Web__init⟩) (c_Web__init : PySem.W.codeIn K cd_Web__init "Web.__init__" = true) (k_Web__init : PySem.W.keepIn K (.ref f_Web__init) = true) (g_Web__init : PySem.W.isFn K (.ref f_Web__init) = true) (mk_Web : PySem.W.makesIn K C_Web = true) (kp_Web : PySem.W.keepIn K (.ref C_Web) = true) (i_Web__tie : PySem.W.findIn K (.ref C_Web) "tie" = some (some (.ref f_Web__tie))) (l_Web__tie : K.lookup f_Web__tie = some ⟨oc_Web__tie, od_Web__tie, .func (PySem.W.fnOf "tie" "Web.tie" (defArgs st_Web__tie) (defBody st_Web__tie) (defScope st_Web__tie) .none kV_Web__tie dc_Web__tie pm_Web__tie an_Web__tie cd_Web__tie ct_Web__tie), sl_Web__tie⟩) (c_Web__tie : PySem.W.codeIn K cd_Web__tie "Web.tie" = true) (k_Web__tie : PySem.W.keepIn K (.ref f_Web__tie) = true) (g_Web__tie : PySem.W.isFn K (.ref f_Web__tie) = true) (a__law_stream : PySem.W.nsIn K mainGlobals "_law_stream" = some (some (.ref f__law_stream))) (l__law_stream : K.lookup f__law_stream = some ⟨oc__law_stream, od__law_stream, .func (PySem.W.fnOf "_law_stream" "_law_stream" (defArgs st__law_stream) (defBody st__law_stream) (defScope st__law_stream) .none kV__law_stream dc__law_stream pm__law_stream an__law_stream cd__law_stream ct__law_stream), sl__law_stream⟩) (c__law_stream : PySem.W.codeIn K cd__law_stream "_law_stream" = true) (k__law_stream : PySem.W.keepIn K (.ref f__law_stream) = true) (a__law_take : PySem.W.nsIn K mainGlobals "_law_take" = some (some (.ref f__law_take))) (l__law_take : K.lookup f__law_take = some ⟨oc__law_take, od__law_take, .func (PySem.W.fnOf "_law_take" "_law_take" (defArgs st__law_take) (defBody st__law_take) (defScope st__law_take) .none kV__law_take dc__law_take pm__law_take an__law_take cd__law_take ct__law_take), sl__law_take⟩) (c__law_take : PySem.W.codeIn K cd__law_take "_law_take" = true) (k__law_take : PySem.W.keepIn K (.ref f__law_take) = true) (a__law_lists : PySem.W.nsIn K mainGlobals "_law_lists" = some (some (.ref f__law_lists))) (l__law_lists : K.lookup f__law_lists = some ⟨oc__law_lists, od__law_lists, .func (PySem.W.fnOf "_law_lists" "_law_lists" (defArgs st__law_lists) (defBody st__law_lists) (defScope st__law_lists) .none kV__law_lists dc__law_lists pm__law_lists an__law_lists cd__law_lists ct__law_lists), sl__law_lists⟩) (c__law_lists : PySem.W.codeIn K cd__law_lists "_law_lists" = true) (k__law_lists : PySem.W.keepIn K (.ref f__law_lists) = true) (a_is_whole : PySem.W.nsIn K mainGlobals "is_whole" = some (some (.ref f_is_whole))) (l_is_whole : K.lookup f_is_whole = some ⟨oc_is_whole, od_is_whole, .func (PySem.W.fnOf "is_whole" "is_whole" (defArgs st_is_whole) (defBody st_is_whole) (defScope st_is_whole) .none kV_is_whole dc_is_whole pm_is_whole an_is_whole cd_is_whole ct_is_whole), sl_is_whole⟩) (c_is_whole : PySem.W.codeIn K cd_is_whole "is_whole" = true) (k_is_whole : PySem.W.keepIn K (.ref f_is_whole) = true) (a_is_row : PySem.W.nsIn K mainGlobals "is_row" = some (some (.ref f_is_row))) (l_is_row : K.lookup f_is_row = some ⟨oc_is_row, od_is_row, .func (PySem.W.fnOf "is_row" "is_row" (defArgs st_is_row) (defBody st_is_row) (defScope st_is_row) .none kV_is_row dc_is_row pm_is_row an_is_row cd_is_row ct_is_row), sl_is_row⟩) (c_is_row : PySem.W.codeIn K cd_is_row "is_row" = true) (k_is_row : PySem.W.keepIn K (.ref f_is_row) = true) (a_common : PySem.W.nsIn K mainGlobals "common" = some (some (.ref f_common))) (l_common : K.lookup f_common = some ⟨oc_common, od_common, .func (PySem.W.fnOf "common" "common" (defArgs st_common) (defBody st_common) (defScope st_common) .none kV_common dc_common pm_common an_common cd_common ct_common), sl_common⟩) (c_common : PySem.W.codeIn K cd_common "common" = true) (k_common : PySem.W.keepIn K (.ref f_common) = true) (a_is_row_of : PySem.W.nsIn K mainGlobals "is_row_of" = some (some (.ref f_is_row_of))) (l_is_row_of : K.lookup f_is_row_of = some ⟨oc_is_row_of, od_is_row_of, .func (PySem.W.fnOf "is_row_of" "is_row_of" (defArgs st_is_row_of) (defBody st_is_row_of) (defScope st_is_row_of) .none kV_is_row_of dc_is_row_of pm_is_row_of an_is_row_of cd_is_row_of ct_is_row_of), sl_is_row_of⟩) (c_is_row_of : PySem.W.codeIn K cd_is_row_of "is_row_of" = true) (k_is_row_of : PySem.W.keepIn K (.ref f_is_row_of) = true) (a_has_amount_numbers : PySem.W.nsIn K mainGlobals "has_amount_numbers" = some (some (.ref f_has_amount_numbers))) (l_has_amount_numbers : K.lookup f_has_amount_numbers = some ⟨oc_has_amount_numbers, od_has_amount_numbers, .func (PySem.W.fnOf "has_amount_numbers" "has_amount_numbers" (defArgs st_has_amount_numbers) (defBody st_has_amount_numbers) (defScope st_has_amount_numbers) .none kV_has_amount_numbers dc_has_amount_numbers pm_has_amount_numbers an_has_amount_numbers cd_has_amount_numbers ct_has_amount_numbers), sl_has_amount_numbers⟩) (c_has_amount_numbers : PySem.W.codeIn K cd_has_amount_numbers "has_amount_numbers" = true) (k_has_amount_numbers : PySem.W.keepIn K (.ref f_has_amount_numbers) = true) (a_is_in_parts : PySem.W.nsIn K mainGlobals "is_in_parts" = some (some (.ref f_is_in_parts))) (l_is_in_parts : K.lookup f_is_in_parts = some ⟨oc_is_in_parts, od_is_in_parts, .func (PySem.W.fnOf "is_in_parts" "is_in_parts" (defArgs st_is_in_parts) (defBody st_is_in_parts) (defScope st_is_in_parts) .none kV_is_in_parts dc_is_in_parts pm_is_in_parts an_is_in_parts cd_is_in_parts ct_is_in_parts), sl_is_in_parts⟩) (c_is_in_parts : PySem.W.codeIn K cd_is_in_parts "is_in_parts" = true) (k_is_in_parts : PySem.W.keepIn K (.ref f_is_in_parts) = true) (a_is_weight : PySem.W.nsIn K mainGlobals "is_weight" = some (some (.ref f_is_weight))) (l_is_weight : K.lookup f_is_weight = some ⟨oc_is_weight, od_is_weight, .func (PySem.W.fnOf "is_weight" "is_weight" (defArgs st_is_weight) (defBody st_is_weight) (defScope st_is_weight) .none kV_is_weight dc_is_weight pm_is_weight an_is_weight cd_is_weight ct_is_weight), sl_is_weight⟩) (c_is_weight : PySem.W.codeIn K cd_is_weight "is_weight" = true) (k_is_weight : PySem.W.keepIn K (.ref f_is_weight) = true) (a_is_place : PySem.W.nsIn K mainGlobals "is_place" = some (some (.ref f_is_place))) (l_is_place : K.lookup f_is_place = some ⟨oc_is_place, od_is_place, .func (PySem.W.fnOf "is_place" "is_place" (defArgs st_is_place) (defBody st_is_place) (defScope st_is_place) .none kV_is_place dc_is_place pm_is_place an_is_place cd_is_place ct_is_place), sl_is_place⟩) (c_is_place : PySem.W.codeIn K cd_is_place "is_place" = true) (k_is_place : PySem.W.keepIn K (.ref f_is_place) = true) (a_are_unlike_places : PySem.W.nsIn K mainGlobals "are_unlike_places" = some (some (.ref f_are_unlike_places))) (l_are_unlike_places : K.lookup f_are_unlike_places = some ⟨oc_are_unlike_places, od_are_unlike_places, .func (PySem.W.fnOf "are_unlike_places" "are_unlike_places" (defArgs st_are_unlike_places) (defBody st_are_unlike_places) (defScope st_are_unlike_places) .none kV_are_unlike_places dc_are_unlike_places pm_are_unlike_places an_are_unlike_places cd_are_unlike_places ct_are_unlike_places), sl_are_unlike_places⟩) (c_are_unlike_places : PySem.W.codeIn K cd_are_unlike_places "are_unlike_places" = true) (k_are_unlike_places : PySem.W.keepIn K (.ref f_are_unlike_places) = true) (a_is_between_places : PySem.W.nsIn K mainGlobals "is_between_places" = some (some (.ref f_is_between_places))) (l_is_between_places : K.lookup f_is_between_places = some ⟨oc_is_between_places, od_is_between_places, .func (PySem.W.fnOf "is_between_places" "is_between_places" (defArgs st_is_between_places) (defBody st_is_between_places) (defScope st_is_between_places) .none kV_is_between_places dc_is_between_places pm_is_between_places an_is_between_places cd_is_between_places ct_is_between_places), sl_is_between_places⟩) (c_is_between_places : PySem.W.codeIn K cd_is_between_places "is_between_places" = true) (k_is_between_places : PySem.W.keepIn K (.ref f_is_between_places) = true) (a_is_tie : PySem.W.nsIn K mainGlobals "is_tie" = some (some (.ref f_is_tie))) (l_is_tie : K.lookup f_is_tie = some ⟨oc_is_tie, od_is_tie, .func (PySem.W.fnOf "is_tie" "is_tie" (defArgs st_is_tie) (defBody st_is_tie) (defScope st_is_tie) .none kV_is_tie dc_is_tie pm_is_tie an_is_tie cd_is_tie ct_is_tie), sl_is_tie⟩) (c_is_tie : PySem.W.codeIn K cd_is_tie "is_tie" = true) (k_is_tie : PySem.W.keepIn K (.ref f_is_tie) = true) (a_kept_ties : PySem.W.nsIn K mainGlobals "kept_ties" = some (some (.ref f_kept_ties))) (l_kept_ties : K.lookup f_kept_ties = some ⟨oc_kept_ties, od_kept_ties, .func (PySem.W.fnOf "kept_ties" "kept_ties" (defArgs st_kept_ties) (defBody st_kept_ties) (defScope st_kept_ties) .none kV_kept_ties dc_kept_ties pm_kept_ties an_kept_ties cd_kept_ties ct_kept_ties), sl_kept_ties⟩) (c_kept_ties : PySem.W.codeIn K cd_kept_ties "kept_ties" = true) (k_kept_ties : PySem.W.keepIn K (.ref f_kept_ties) = true) (a__law_spoil : PySem.W.nsIn K mainGlobals "_law_spoil" = some (some (.ref f__law_spoil))) (l__law_spoil : K.lookup f__law_spoil = some ⟨oc__law_spoil, od__law_spoil, .func (PySem.W.fnOf "_law_spoil" "_law_spoil" (defArgs st__law_spoil) (defBody st__law_spoil) (defScope st__law_spoil) .none kV__law_spoil dc__law_spoil pm__law_spoil an__law_spoil cd__law_spoil ct__law_spoil), sl__law_spoil⟩) (c__law_spoil : PySem.W.codeIn K cd__law_spoil "_law_spoil" = true) (k__law_spoil : PySem.W.keepIn K (.ref f__law_spoil) = true) (a__law_due : PySem.W.nsIn K mainGlobals "_law_due" = some (some (.ref f__law_due))) (l__law_due : K.lookup f__law_due = some ⟨oc__law_due, od__law_due, .func (PySem.W.fnOf "_law_due" "_law_due" (defArgs st__law_due) (defBody st__law_due) (defScope st__law_due) .none kV__law_due dc__law_due pm__law_due an__law_due cd__law_due ct__law_due), sl__law_due⟩) (c__law_due : PySem.W.codeIn K cd__law_due "_law_due" = true) (k__law_due : PySem.W.keepIn K (.ref f__law_due) = true) (a__law_holds : PySem.W.nsIn K mainGlobals "_law_holds" = some (some (.ref f__law_holds))) (l__law_holds : K.lookup f__law_holds = some ⟨oc__law_holds, od__law_holds, .func (PySem.W.fnOf "_law_holds" "_law_holds" (defArgs st__law_holds) (defBody st__law_holds) (defScope st__law_holds) .none kV__law_holds dc__law_holds pm__law_holds an__law_holds cd__law_holds ct__law_holds), sl__law_holds⟩) (c__law_holds : PySem.W.codeIn K cd__law_holds "_law_holds" = true) (k__law_holds : PySem.W.keepIn K (.ref f__law_holds) = true) (a__law_made : PySem.W.nsIn K mainGlobals "_law_made" = some (some (.ref f__law_made))) (l__law_made : K.lookup f__law_made = some ⟨oc__law_made, od__law_made, .func (PySem.W.fnOf "_law_made" "_law_made" (defArgs st__law_made) (defBody st__law_made) (defScope st__law_made) .none kV__law_made dc__law_made pm__law_made an__law_made cd__law_made ct__law_made), sl__law_made⟩) (c__law_made : PySem.W.codeIn K cd__law_made "_law_made" = true) (k__law_made : PySem.W.keepIn K (.ref f__law_made) = true) (a__law_pick : PySem.W.nsIn K mainGlobals "_law_pick" = some (some (.ref f__law_pick))) (l__law_pick : K.lookup f__law_pick = some ⟨oc__law_pick, od__law_pick, .func (PySem.W.fnOf "_law_pick" "_law_pick" (defArgs st__law_pick) (defBody st__law_pick) (defScope st__law_pick) .none kV__law_pick dc__law_pick pm__law_pick an__law_pick cd__law_pick ct__law_pick), sl__law_pick⟩) (c__law_pick : PySem.W.codeIn K cd__law_pick "_law_pick" = true) (k__law_pick : PySem.W.keepIn K (.ref f__law_pick) = true) (a__law_least : PySem.W.nsIn K mainGlobals "_law_least" = some (some (.ref f__law_least))) (l__law_least : K.lookup f__law_least = some ⟨oc__law_least, od__law_least, .func (PySem.W.fnOf "_law_least" "_law_least" (defArgs st__law_least) (defBody st__law_least) (defScope st__law_least) .none kV__law_least dc__law_least pm__law_least an__law_least cd__law_least ct__law_least), sl__law_least⟩) (c__law_least : PySem.W.codeIn K cd__law_least "_law_least" = true) (k__law_least : PySem.W.keepIn K (.ref f__law_least) = true) (a__law_weight : PySem.W.nsIn K mainGlobals "_law_weight" = some (some (.ref f__law_weight))) (l__law_weight : K.lookup f__law_weight = some ⟨oc__law_weight, od__law_weight, .func (PySem.W.fnOf "_law_weight" "_law_weight" (defArgs st__law_weight) (defBody st__law_weight) (defScope st__law_weight) .none kV__law_weight dc__law_weight pm__law_weight an__law_weight cd__law_weight ct__law_weight), sl__law_weight⟩) (c__law_weight : PySem.W.codeIn K cd__law_weight "_law_weight" = true) (k__law_weight : PySem.W.keepIn K (.ref f__law_weight) = true) (a__law_ties : PySem.W.nsIn K mainGlobals "_law_ties" = some (some (.ref f__law_ties))) (l__law_ties : K.lookup f__law_ties = some ⟨oc__law_ties, od__law_ties, .func (PySem.W.fnOf "_law_ties" "_law_ties" (defArgs st__law_ties) (defBody st__law_ties) (defScope st__law_ties) .none kV__law_ties dc__law_ties pm__law_ties an__law_ties cd__law_ties ct__law_ties), sl__law_ties⟩) (c__law_ties : PySem.W.codeIn K cd__law_ties "_law_ties" = true) (k__law_ties : PySem.W.keepIn K (.ref f__law_ties) = true) (a_law : PySem.W.nsIn K mainGlobals "law" = some (some (.ref f_law))) (l_law : K.lookup f_law = some ⟨oc_law, od_law, .func (PySem.W.fnOf "law" "law" (defArgs st_law) (defBody st_law) (defScope st_law) .none kV_law dc_law pm_law an_law cd_law ct_law), sl_law⟩) (c_law : PySem.W.codeIn K cd_law "law" = true) (k_law : PySem.W.keepIn K (.ref f_law) = true) : Txt K mg := by
  cases clOf_of a_Web
  exact ⟨(free_cons (PySem.W.mg_none_of X G z_bool) (free_cons (PySem.W.mg_none_of X G z_dict) (free_cons (PySem.W.mg_none_of X G z_enumerate) (free_cons (PySem.W.mg_none_of X G z_int) (free_cons (PySem.W.mg_none_of X G z_isinstance) (free_cons (PySem.W.mg_none_of X G z_len) (free_cons (PySem.W.mg_none_of X G z_list) (free_cons (PySem.W.mg_none_of X G z_max) (free_cons (PySem.W.mg_none_of X G z_min) (free_cons (PySem.W.mg_none_of X G z_range) (free_cons (PySem.W.mg_none_of X G z_repr) (free_cons (PySem.W.mg_none_of X G z_sorted) (free_cons (PySem.W.mg_none_of X G z_tuple) free_nil))))))))))))), ⟨_, PySem.W.mg_of X G u_MOST_ABOVE⟩, ⟨_, PySem.W.mg_of X G u_BELOW⟩, ⟨_, PySem.W.mg_of X G u_MOST_PLACES⟩, PySem.W.mg_of X G a_Web, ⟨cl_Web_pg, cl_Web_hd, cl_Web_po, cl_Web_sa⟩, na_Web_ties, na_Web_many, na_Web_weights, mdef_mk rfl i_Web__init l_Web__init c_Web__init k_Web__init g_Web__init, mk_Web, kp_Web, mdef_mk rfl i_Web__tie l_Web__tie c_Web__tie k_Web__tie g_Web__tie, def_mk X G a__law_stream l__law_stream c__law_stream k__law_stream, def_mk X G a__law_take l__law_take c__law_take k__law_take, def_mk X G a__law_lists l__law_lists c__law_lists k__law_lists, def_mk X G a_is_whole l_is_whole c_is_whole k_is_whole, def_mk X G a_is_row l_is_row c_is_row k_is_row, def_mk X G a_common l_common c_common k_common, def_mk X G a_is_row_of l_is_row_of c_is_row_of k_is_row_of, def_mk X G a_has_amount_numbers l_has_amount_numbers c_has_amount_numbers k_has_amount_numbers, def_mk X G a_is_in_parts l_is_in_parts c_is_in_parts k_is_in_parts, def_mk X G a_is_weight l_is_weight c_is_weight k_is_weight, def_mk X G a_is_place l_is_place c_is_place k_is_place, def_mk X G a_are_unlike_places l_are_unlike_places c_are_unlike_places k_are_unlike_places, def_mk X G a_is_between_places l_is_between_places c_is_between_places k_is_between_places, def_mk X G a_is_tie l_is_tie c_is_tie k_is_tie, def_mk X G a_kept_ties l_kept_ties c_kept_ties k_kept_ties, def_mk X G a__law_spoil l__law_spoil c__law_spoil k__law_spoil, def_mk X G a__law_due l__law_due c__law_due k__law_due, def_mk X G a__law_holds l__law_holds c__law_holds k__law_holds, def_mk X G a__law_made l__law_made c__law_made k__law_made, def_mk X G a__law_pick l__law_pick c__law_pick k__law_pick, def_mk X G a__law_least l__law_least c__law_least k__law_least, def_mk X G a__law_weight l__law_weight c__law_weight k__law_weight, def_mk X G a__law_ties l__law_ties c__law_ties k__law_ties, def_mk X G a_law l_law c_law k_law⟩
end
end Q4
end
end

section
set_option Elab.async false
set_option linter.all false
set_option maxRecDepth 100000
set_option maxHeartbeats 2000000
namespace Q4
open PySem PySem.Spec PyProof.Rows L2
abbrev I (n : Int) : CD := .d (.int n)
abbrev B (b : Bool) : CD := .d (.bool b)
mutual
theorem snap_up {M : Sto} : ∀ (n : Nat) (x : CD) (d : PyData), snap n M x = some d → snap (n + 1) M x = some d
  | n, .d y, d, h => by rw [snap_d] at h ⊢; exact h
  | 0, .c i, d, h => by unfold snap at h; cases h
  | n + 1, .c i, d, h => by
    unfold snap at h ⊢
    cases e : M[i]? with
    | none => rw [e] at h; cases h
    | some c =>
      rw [e] at h
      cases c with
      | lst xs =>
        obtain ⟨ds, h1, h⟩ := bindE (show (snaps n M xs).bind _ = _ from h)
        cases h
        show (snaps (n + 1) M xs).bind _ = _
        rw [snaps_up n xs ds h1]
        rfl
      | _ => cases h
theorem snaps_up {M : Sto} : ∀ (n : Nat) (xs : List CD) (ds : List PyData), snaps n M xs = some ds → snaps (n + 1) M xs = some ds
  | _, [], ds, h => by unfold snaps at h ⊢; exact h
  | n, x :: xs, ds, h => by
    unfold snaps at h ⊢
    obtain ⟨d, h1, h⟩ := bindE h
    obtain ⟨es, h2, h⟩ := bindE h
    cases h
    rw [snap_up n x d h1]
    show (snaps (n + 1) M xs).bind _ = _
    rw [snaps_up n xs es h2]
    rfl
end
def Rds (M : Sto) (x : CD) (d : PyData) : Prop := snap 5 M x = some d
theorem Rds.d {M : Sto} {d : PyData} : Rds M (.d d) d := snap_d
theorem snaps_at {M : Sto} {n : Nat} : ∀ {xs : List CD} {ds : List PyData}, snaps n M xs = some ds → xs.length = ds.length ∧ ∀ (j : Nat) e, ds[j]? = some e → ∃ y, xs[j]? = some y ∧ snap n M y = some e
  | [], ds, h => by unfold snaps at h; cases h; exact ⟨rfl, fun j e q => by cases q⟩
  | x :: xs, ds, h => by
    unfold snaps at h
    obtain ⟨d, h1, h⟩ := bindE h
    obtain ⟨es, h2, h⟩ := bindE h
    cases h
    obtain ⟨k1, k2⟩ := snaps_at h2
    refine ⟨by rw [List.length_cons, List.length_cons, k1], fun j e q => ?_⟩
    cases j with
    | zero => cases q; exact ⟨x, rfl, h1⟩
    | succ j => exact k2 j e q
theorem Rds.items {M : Sto} {x : CD} {d : PyData} {ds : List PyData} (h : Rds M x d) (hd : itemsD d = some ds) : lenF [x] M = some (I ds.length, M) ∧ ∀ (j : Nat) e, ds[j]? = some e → ∃ y, ixF x (I j) M = some (y, M) ∧ Rds M y e := by
  cases x with
  | d z =>
    rw [Rds, snap_d] at h
    cases h
    refine ⟨by show (itemsD d).bind _ = _; rw [hd]; rfl, fun j e he => ⟨.d e, ?_, snap_d⟩⟩
    show (itemsD d).bind (fun ds => (atI ds (j : Int)).bind fun e => some (CD.d e, M)) = _
    rw [hd, Option.bind_some, atI_nat he]
    rfl
  | c i =>
    unfold Rds snap at h
    cases e : M[i]? with
    | none => rw [e] at h; cases h
    | some c =>
      rw [e] at h
      cases c with
      | lst xs =>
        obtain ⟨es, h1, h⟩ := bindE (show (snaps 4 M xs).bind _ = _ from h)
        cases h
        cases hd
        obtain ⟨k1, k2⟩ := snaps_at h1
        refine ⟨by simp only [lenF, e, k1], fun j f hf => ?_⟩
        obtain ⟨y, hy, hs⟩ := k2 j f hf
        exact ⟨y, by simp only [ixF, e, atI_nat hy, Option.bind_some], snap_up 4 y f hs⟩
      | _ => cases h
def isWholeD : PyData → Bool
  | .int _ => true
  | _ => false
def isRowD : PyData → Bool
  | .list _ => true
  | .tuple _ => true
  | _ => false
theorem e_is_whole {x : CD} {d : PyData} {M : Sto} (h : Rds M x d) : F_is_whole [x] M = some (B (isWholeD d), M) := by
  simp only [F_is_whole, m_is_whole, fIsiC, show snap 5 M x = some d from h, fnF, sRet, fVar, fAnd, fNot, asB, Option.bind_some, List.getElem?_cons_zero, List.length_cons, List.length_nil, List.map_cons, List.map_nil, List.replicate_zero, List.append_nil, if_true, Nat.reduceAdd, Nat.reduceSub]
  cases d <;> rfl
theorem e_is_row {x : CD} {d : PyData} {M : Sto} (h : Rds M x d) : F_is_row [x] M = some (B (isRowD d), M) := by
  simp only [F_is_row, m_is_row, fIsi2C, show snap 5 M x = some d from h, fnF, sRet, fVar, Option.bind_some, List.getElem?_cons_zero, List.length_cons, List.length_nil, List.map_cons, List.map_nil, List.replicate_zero, List.append_nil, if_true, Nat.reduceAdd, Nat.reduceSub]
  cases d <;> rfl
theorem eqII {i j : Int} {M : Sto} : eqX false (I i) (I j) M = some (B (i == j), M) := rfl
theorem neII {i j : Int} {M : Sto} : eqX true (I i) (I j) M = some (B (!(i == j)), M) := rfl
theorem addII {i j : Int} {M : Sto} : addX (I i) (I j) M = some (I (i + j), M) := rfl
theorem e_is_row_of {x : CD} {d : PyData} {ds : List PyData} {M : Sto} (n : Int) (h : Rds M x d) (hd : itemsD d = some ds) : F_is_row_of [x, I n] M = some (B ((ds.length : Int) == n), M) := by
  have e1 : F_is_row [x] M = some (B true, M) := by
    rw [e_is_row h]
    cases d <;> first | rfl | cases hd
  simp only [F_is_row_of, m_is_row_of, fnF, sRet, fCall, fCons, fNil, fVar, fOp, fAnd, asB, Option.bind_some, List.getElem?_cons_zero, List.getElem?_cons_succ, List.length_cons, List.length_nil, List.map_cons, List.map_nil, List.replicate_zero, List.append_nil, if_true, Nat.reduceAdd, Nat.reduceSub, e1, (h.items hd).1, eqII]
end Q4

end

section
set_option Elab.async false
set_option linter.all false
set_option maxRecDepth 100000
set_option maxHeartbeats 2000000
namespace Q4
open PySem PySem.Spec PyProof.Rows L2
theorem gcd_step (x y : Int) : Int.gcd y (x % y) = Int.gcd x y := by
  rw [Int.gcd_comm x y]
  have : x % y = x - y * (x / y) := by have := Int.emod_add_mul_ediv x y; omega
  rw [this]
  simp
theorem modOk_t {x y : Int} (h : 0 < y) : modOk x y = true := by simp [modOk, h]
theorem common_loop (M : Sto) : ∀ (n : Nat) (x y : Int), 0 ≤ x → 0 ≤ y → y.toNat < n →
    whileN (gTru (fVar 1)) (sPar 0 1 (fCons (fVar 1) (fCons (fOp modI (fVar 0) (fVar 1)) fNil))) n [some (I x), some (I y)] M = some (.nx [some (I (Int.gcd x y)), some (I 0)], M)
  | 0, _, _, _, _, h => by omega
  | n + 1, x, y, hx, hy, h => by
    by_cases e : y = 0
    · subst e
      have : (Int.gcd x 0 : Int) = x := by rw [Int.gcd_zero_right]; omega
      rw [this]
      rfl
    · have hp : 0 < y := by omega
      have ih := common_loop M n y (x % y) hy (Int.emod_nonneg _ e) (by have := Int.emod_lt_of_pos x hp; omega)
      rw [gcd_step] at ih
      rw [← ih]
      have hb : (y != 0) = true := by simp [e]
      simp only [whileN, gTru, fVar, truF, sPar, fCons, fOp, fNil, modI, pI, ifS, modOk_t hp, hb, Option.bind, List.getElem?_cons_succ, List.getElem?_cons_zero, if_true, List.set]
theorem e_common {a b : Int} (M : Sto) (ha : 0 ≤ a) (hb : 0 ≤ b) : F_common [I a, I b] M = some (I (Int.gcd a b), M) := by
  have h : W_common_0 [some (I a), some (I b)] M = _ := while_is (common_loop M (b.toNat + 1) a b ha hb (Nat.lt_succ_self _))
  show ((sSeq W_common_0 _ [some (I a), some (I b)] M).bind _) = _
  unfold sSeq
  rw [h]
  rfl
def wgtI (a b : Int) : Bool := decide (0 ≤ a) && decide (1 ≤ b) && (55440 % b == 0) && (Int.gcd a b == 1) && decide (a ≤ 1000000000000)
theorem least_loop (M : Sto) (a b : Int) : ∀ (n : Nat) (x y : Int), 0 ≤ x → 0 ≤ y → y.toNat < n →
    whileN (gB (fOp gtI (fVar 3) (fC (.int 0)))) (sPar 2 3 (fCons (fVar 3) (fCons (fOp modI (fVar 2) (fVar 3)) fNil))) n [some (I a), some (I b), some (I x), some (I y)] M = some (.nx [some (I a), some (I b), some (I (Int.gcd x y)), some (I 0)], M)
  | 0, _, _, _, _, h => by omega
  | n + 1, x, y, hx, hy, h => by
    by_cases e : y = 0
    · subst e
      have : (Int.gcd x 0 : Int) = x := by rw [Int.gcd_zero_right]; omega
      rw [this]
      rfl
    · have hp : 0 < y := by omega
      have ih := least_loop M a b n y (x % y) hy (Int.emod_nonneg _ e) (by have := Int.emod_lt_of_pos x hp; omega)
      rw [gcd_step] at ih
      rw [← ih]
      have hb : decide (0 < y) = true := decide_eq_true hp
      simp only [whileN, sPar, gB, fCons, fNil, fVar, fC, fOp, asB, pI, ifS, modI, gtI, Option.bind_some, List.getElem?_cons_zero, List.getElem?_cons_succ, List.set_cons_zero, List.set_cons_succ, if_true, modOk_t hp, hb]
theorem gcd_pos {a b : Int} (h : 1 ≤ b) : 1 ≤ (Int.gcd a b : Int) := by
  have : Int.gcd a b ≠ 0 := fun z => by have := (Int.gcd_eq_zero_iff.mp z).2; omega
  omega
theorem gcd_le {a b : Int} (h : 1 ≤ b) : (Int.gcd a b : Int) ≤ b := Int.le_of_dvd (by omega) (Int.gcd_dvd_right a b)
theorem wsm {y : Int} (h : 0 ≤ y) (h2 : y < 2 ^ 200) : y.natAbs < wideN := by
  have h1 : y.natAbs < 2 ^ 200 := by omega
  exact Nat.lt_of_lt_of_le h1 (Nat.pow_le_pow_right (by decide) (by decide))
theorem divOk_t {x y : Int} (h : 0 < y) (h2 : y.natAbs < wideN) : divOk x y = true := by simp [divOk, h, h2]
theorem e_least {a b : Int} (M : Sto) (ha : 0 ≤ a) (hb : 1 ≤ b) (hw : b.natAbs < wideN) : F__law_least [I a, I b] M = some (.d (.tuple [.int (a / (Int.gcd a b : Int)), .int (b / (Int.gcd a b : Int))]), M) := by
  have h : W__law_least_0 [some (I a), some (I b), some (I a), some (I b)] M = _ := while_is (least_loop M a b (b.toNat + 1) a b ha (by omega) (Nat.lt_succ_self _))
  have g1 := gcd_pos (a := a) hb
  have g2 := gcd_le (a := a) hb
  have d1 : ∀ x, divOk x (Int.gcd a b : Int) = true := fun x => divOk_t (by omega) (Nat.lt_of_le_of_lt (by omega) hw)
  have sz : (2 : Nat) ≤ sizeLine := by decide
  simp only [F__law_least, m__law_least, fnF, sSeq, sRet, sAsg, hName, fCons, fNil, fVar, fOp, fTup, allD, pI, ifS, fdivI, Option.bind_some, Option.map_some, List.getElem?_cons_zero, List.getElem?_cons_succ, List.length_cons, List.length_nil, List.set_cons_zero, List.set_cons_succ, List.map_cons, List.map_nil, List.replicate_zero, List.replicate_succ, List.cons_append, List.nil_append, if_true, Nat.reduceAdd, Nat.reduceSub, h, d1, sz]
def Stm (M : Sto) (i : Nat) : Prop := ∃ a b : Int, M[i]? = some (.lst [I a, I b]) ∧ 0 ≤ a ∧ 0 ≤ b ∧ b < 2 ^ 40
def Nxt (i : Nat) (M M' : Sto) : Prop := ∃ a b : Int, M' = M.set i (.lst [I a, I b]) ∧ 0 ≤ a ∧ 0 ≤ b ∧ b < 2 ^ 40
theorem Stm.lt {M : Sto} {i : Nat} (h : Stm M i) : i < M.length := by
  obtain ⟨a, b, h, _⟩ := h
  exact (List.getElem?_eq_some_iff.mp h).1
theorem Nxt.stm {M M' : Sto} {i : Nat} (n : Nxt i M M') (h : Stm M i) : Stm M' i := by
  obtain ⟨a, b, rfl, r⟩ := n
  exact ⟨a, b, by rw [List.getElem?_set_self h.lt], r⟩
theorem Nxt.trans {M M1 M2 : Sto} {i : Nat} (n : Nxt i M M1) (m : Nxt i M1 M2) : Nxt i M M2 := by
  obtain ⟨a, b, rfl, _⟩ := n
  obtain ⟨c, d, rfl, r⟩ := m
  exact ⟨c, d, by rw [List.set_set], r⟩
theorem ixC0 {i : Nat} {x y : CD} {M : Sto} (h : M[i]? = some (.lst [x, y])) : ixF (.c i) (I 0) M = some (x, M) := by
  unfold ixF; dsimp only; rw [h]; rfl
theorem ixC1 {i : Nat} {x y : CD} {M : Sto} (h : M[i]? = some (.lst [x, y])) : ixF (.c i) (I 1) M = some (y, M) := by
  unfold ixF; dsimp only; rw [h]; rfl
theorem setC0 {i : Nat} {x y z : CD} {M : Sto} (h : M[i]? = some (.lst [x, y])) : setF (.c i) (I 0) z M = some (M.set i (.lst [z, y])) := by
  unfold setF; dsimp only; rw [h]; rfl
theorem setC1 {i : Nat} {x y z : CD} {M : Sto} (h : M[i]? = some (.lst [x, y])) : setF (.c i) (I 1) z M = some (M.set i (.lst [x, z])) := by
  unfold setF; dsimp only; rw [h]; rfl
theorem mulOk_r {x y : Int} (h : y.natAbs < 2 ^ 64) : mulOk x y = true := by simp only [mulOk, decide_eq_true h, Bool.or_true, Bool.true_or]
theorem e_take {M : Sto} {i : Nat} {m : Int} (h : Stm M i) (m0 : 0 < m) (m1 : m < 2 ^ 200) : ∃ r M', F__law_take [.c i, I m] M = some (I r, M') ∧ 0 ≤ r ∧ r < m ∧ Nxt i M M' := by
  obtain ⟨a, b, hM, a0, b0, b1⟩ := h
  have lt : i < M.length := (List.getElem?_eq_some_iff.mp hM).1
  cases e : (a == 0) with
  | true =>
    have q0 := Int.emod_nonneg (b * 48271 + 12345) (b := 2147483647) (by decide)
    have q1 := Int.emod_lt_of_pos (b * 48271 + 12345) (b := 2147483647) (by decide)
    have o1 : mulOk b 48271 = true := mulOk_r (by decide)
    have o2 : modOk (b * 48271 + 12345) 2147483647 = true := modOk_t (by decide)
    obtain ⟨c, hc⟩ : ∃ c, (b * 48271 + 12345) % 2147483647 = c := ⟨_, rfl⟩
    rw [hc] at q0 q1
    have hM1 : (M.set i (.lst [I a, I c]))[i]? = some (.lst [I a, I c]) := by rw [List.getElem?_set_self lt]
    have o3 : mulOk c c = true := mulOk_r (by omega)
    have o4 : modOk (c * c) 2147483629 = true := modOk_t (by decide)
    have o5 : modOk (c * c % 2147483629) m = true := modOk_t m0
    refine ⟨c * c % 2147483629 % m, M.set i (.lst [I a, I c]), ?_, Int.emod_nonneg _ (by omega), Int.emod_lt_of_pos _ m0, a, c, rfl, a0, q0, by omega⟩
    simp only [F__law_take, m__law_take, fnF, sSeq, sIf, sRet, sNext, sAsg, hName, hSub, gB, fVar, fC, fOp, asB, pI, ifS, mulI, fdivI, modI, Option.bind_some, List.getElem?_cons_zero, List.getElem?_cons_succ, List.length_cons, List.length_nil, List.map_cons, List.map_nil, List.replicate_zero, List.replicate_succ, List.cons_append, List.nil_append, if_true, Nat.reduceAdd, Nat.reduceSub, ixC0 hM, ixC1 hM, eqII, addII, e, o1, o2, hc, setC1 hM, ixC1 hM1, o3, o4, o5]
  | false =>
    have o1 : modOk a m = true := modOk_t m0
    have o2 : divOk a m = true := divOk_t m0 (wsm (by omega) m1)
    refine ⟨a % m, M.set i (.lst [I (a / m), I b]), ?_, Int.emod_nonneg _ (by omega), Int.emod_lt_of_pos _ m0, a / m, b, rfl, Int.ediv_nonneg a0 (by omega), b0, b1⟩
    simp only [F__law_take, m__law_take, fnF, sSeq, sIf, sRet, sNext, sAsg, hName, hSub, gB, fVar, fC, fOp, asB, pI, ifS, mulI, fdivI, modI, Option.bind_some, List.getElem?_cons_zero, List.getElem?_cons_succ, List.length_cons, List.length_nil, List.set_cons_zero, List.set_cons_succ, List.map_cons, List.map_nil, List.replicate_zero, List.replicate_succ, List.cons_append, List.nil_append, if_true, ite_false, Nat.reduceAdd, Nat.reduceSub, Bool.false_eq_true, ixC0 hM, eqII, e, o1, o2, setC0 hM]
theorem ixL {ds : List PyData} {j : Nat} {d : PyData} {M : Sto} (h : ds[j]? = some d) : ixF (.d (.list ds)) (I j) M = some (.d d, M) := by
  have hlt : j < ds.length := (List.getElem?_eq_some_iff.mp h).1
  have e : atI ds (j : Int) = some d := atI_nat h
  unfold ixF
  dsimp only
  show (some ds).bind _ = _
  rw [Option.bind_some, e]
  rfl
theorem e_pick {M : Sto} {i : Nat} {ds : List PyData} (h : Stm M i) (h0 : 0 < ds.length) (h1 : ds.length < 1000) : ∃ d M', F__law_pick [.c i, .d (.list ds)] M = some (.d d, M') ∧ d ∈ ds ∧ Nxt i M M' := by
  obtain ⟨r, M', e, r0, r1, n⟩ := e_take (m := (ds.length : Int)) h (by omega) (by omega)
  have hlt : r.toNat < ds.length := by omega
  have hd : ds[r.toNat]? = some ds[r.toNat] := List.getElem?_eq_getElem hlt
  have hr : (r.toNat : Int) = r := Int.toNat_of_nonneg r0
  have hx := ixL (M := M') hd
  rw [hr] at hx
  have hl : lenF [.d (.list ds)] M = some (I ds.length, M) := rfl
  refine ⟨ds[r.toNat], M', ?_, List.getElem_mem hlt, n⟩
  simp only [F__law_pick, m__law_pick, fnF, sRet, fCall, fCons, fNil, fVar, fOp, Option.bind_some, List.getElem?_cons_zero, List.getElem?_cons_succ, List.length_cons, List.length_nil, List.map_cons, List.map_nil, List.replicate_zero, List.append_nil, if_true, Nat.reduceAdd, Nat.reduceSub, hl, e, hx]
abbrev T2 (a b : Int) : CD := .d (.tuple [.int a, .int b])
theorem wgt_least {a b : Int} (h0 : 0 ≤ a) (h1 : a ≤ 1000000000000) (h2 : 1 ≤ b) (h3 : b ∣ 55440) : wgtI (a / (Int.gcd a b : Int)) (b / (Int.gcd a b : Int)) = true := by
  have g1 := gcd_pos (a := a) h2
  have gd : ((Int.gcd a b : Int)) ∣ b := Int.gcd_dvd_right a b
  have e1 : 0 ≤ a / (Int.gcd a b : Int) := Int.ediv_nonneg h0 (by omega)
  have e2 : a / (Int.gcd a b : Int) ≤ 1000000000000 := Int.le_trans (Int.ediv_le_self _ h0) h1
  have e3 : 0 < b / (Int.gcd a b : Int) := Int.ediv_pos_of_pos_of_dvd (by omega) (by omega) gd
  have e4 : 55440 % (b / (Int.gcd a b : Int)) = 0 := Int.emod_eq_zero_of_dvd (Int.dvd_trans (Int.ediv_dvd_of_dvd gd) h3)
  have e5 : Int.gcd (a / (Int.gcd a b : Int)) (b / (Int.gcd a b : Int)) = 1 := Int.gcd_ediv_gcd_ediv_gcd (by omega)
  unfold wgtI
  rw [e4, e5, decide_eq_true e1, decide_eq_true (show 1 ≤ b / (Int.gcd a b : Int) by omega), decide_eq_true e2]
  rfl
theorem wgt_b {a b : Int} (h : wgtI a b = true) : 0 ≤ a ∧ a ≤ 1000000000000 ∧ 1 ≤ b ∧ b ≤ 55440 := by
  unfold wgtI at h
  simp only [Bool.and_eq_true, decide_eq_true_eq, beq_iff_eq] at h
  obtain ⟨⟨⟨⟨h1, h2⟩, h3⟩, _⟩, h5⟩ := h
  exact ⟨h1, h5, h2, Int.le_of_dvd (by decide) (Int.dvd_of_emod_eq_zero h3)⟩
def six : List PyData := [.tuple [.int 1, .int 1], .tuple [.int 1, .int 1], .tuple [.int 2, .int 1], .tuple [.int 1, .int 2], .tuple [.int 3, .int 4], .tuple [.int 0, .int 1]]
def belows : List PyData := [.int 1, .int 2, .int 3, .int 5, .int 7, .int 8, .int 9, .int 11, .int 12, .int 16, .int 35, .int 99, .int 720, .int 5040, .int 27720, .int 55440]
theorem below_of {d : PyData} (h : d ∈ belows) : ∃ n : Int, d = .int n ∧ 1 ≤ n ∧ n ∣ 55440 ∧ n ≤ 55440 := by
  unfold belows at h
  simp only [List.mem_cons, List.not_mem_nil, or_false] at h
  rcases h with rfl | rfl | rfl | rfl | rfl | rfl | rfl | rfl | rfl | rfl | rfl | rfl | rfl | rfl | rfl | rfl <;> exact ⟨_, rfl, by decide, by decide, by decide⟩
theorem six_at {r : Int} (h0 : 0 ≤ r) (h1 : r < 6) (M : Sto) : ∃ a b, ixF (.d (.list six)) (I r) M = some (T2 a b, M) ∧ wgtI a b = true := by
  have cs : r = 0 ∨ r = 1 ∨ r = 2 ∨ r = 3 ∨ r = 4 ∨ r = 5 := by omega
  rcases cs with rfl | rfl | rfl | rfl | rfl | rfl <;> exact ⟨_, _, rfl, by decide⟩
theorem e_K0 (γ : Ga) (M : Sto) : K__law_weight_0 γ M = some (.d (.list six), M) := rfl
theorem e_K1 (γ : Ga) (M : Sto) : K__law_weight_1 γ M = some (.d (.list belows), M) := rfl
theorem four_at {x y z w r : Int} (h0 : 0 ≤ r) (h1 : r < 4) (M : Sto) : ∃ c, ixF (.d (.list [.int x, .int y, .int z, .int w])) (I r) M = some (I c, M) ∧ (c = x ∨ c = y ∨ c = z ∨ c = w) := by
  have cs : r = 0 ∨ r = 1 ∨ r = 2 ∨ r = 3 := by omega
  rcases cs with rfl | rfl | rfl | rfl
  · exact ⟨x, rfl, .inl rfl⟩
  · exact ⟨y, rfl, .inr (.inl rfl)⟩
  · exact ⟨z, rfl, .inr (.inr (.inl rfl))⟩
  · exact ⟨w, rfl, .inr (.inr (.inr rfl))⟩
theorem e_weight {M : Sto} {i : Nat} (h : Stm M i) : ∃ a b M', F__law_weight [.c i] M = some (T2 a b, M') ∧ wgtI a b = true ∧ Nxt i M M' := by
  obtain ⟨r, M1, e1, r0, r1, n1⟩ := e_take (m := 8) h (by decide) (by decide)
  have s1 := n1.stm h
  cases c : decide (r < 6) with
  | true =>
    obtain ⟨a, b, e2, w⟩ := six_at r0 (of_decide_eq_true c) M1
    refine ⟨a, b, M1, ?_, w, n1⟩
    simp only [F__law_weight, m__law_weight, fnF, sSeq, sIf, sRet, sNext, sAsg, hName, gB, fCall, fCons, fNil, fVar, fC, fOp, asB, fLst, pI, ifS, subI, powI, ltI, Option.bind_some, List.getElem?_cons_zero, List.getElem?_cons_succ, List.length_cons, List.length_nil, List.set_cons_zero, List.set_cons_succ, List.map_cons, List.map_nil, List.replicate_zero, List.replicate_succ, List.cons_append, List.nil_append, if_true, Nat.reduceAdd, Nat.reduceSub, e1, c, e_K0, e2]
  | false =>
    obtain ⟨d, M2, e2, hd, n2⟩ := e_pick (ds := belows) s1 (by decide) (by decide)
    obtain ⟨n, rfl, b0, b1, b2⟩ := below_of hd
    have s2 := n2.stm s1
    obtain ⟨t, M3, e3, t0, t1, n3⟩ := e_take (m := 1000) s2 (by decide) (by decide)
    have s3 := n3.stm s2
    cases c7 : (r == 7) with
    | false =>
      refine ⟨_, _, M3, ?_, wgt_least t0 (by omega) b0 b1, (n1.trans n2).trans n3⟩
      simp only [F__law_weight, m__law_weight, fnF, sSeq, sIf, sRet, sNext, sAsg, hName, gB, fCall, fCons, fNil, fVar, fC, fOp, asB, fLst, pI, ifS, subI, powI, ltI, Option.bind_some, List.getElem?_cons_zero, List.getElem?_cons_succ, List.length_cons, List.length_nil, List.set_cons_zero, List.set_cons_succ, List.map_cons, List.map_nil, List.replicate_zero, List.replicate_succ, List.cons_append, List.nil_append, if_true, ite_false, Nat.reduceAdd, Nat.reduceSub, Bool.false_eq_true, e1, c, e_K1, e2, e3, eqII, c7, e_least M3 t0 b0 (wsm (by omega) (by omega))]
    | true =>
      obtain ⟨u, M4, e4, u0, u1, n4⟩ := e_take (m := 1000) s3 (by decide) (by decide)
      have s4 := n4.stm s3
      obtain ⟨v, M5, e5, v0, v1, n5⟩ := e_take (m := 4) s4 (by decide) (by decide)
      obtain ⟨x, e6, hx⟩ := four_at (x := 10 ^ (12 : Int).toNat) (y := 10 ^ (12 : Int).toNat - 1) (z := 1) (w := 10 ^ (9 : Int).toNat + u) v0 v1 M5
      have q1 : (10 : Int) ^ (12 : Int).toNat = 1000000000000 := rfl
      have q2 : (10 : Int) ^ (9 : Int).toNat = 1000000000 := rfl
      have x0 : 0 ≤ x ∧ x ≤ 1000000000000 := by rw [q1, q2] at hx; omega
      have p1 : powOk 10 12 = true := by decide
      have p2 : powOk 10 9 = true := by decide
      have sz : (4 : Nat) ≤ sizeLine := by decide
      refine ⟨_, _, M5, ?_, wgt_least x0.1 x0.2 b0 b1, (((n1.trans n2).trans n3).trans n4).trans n5⟩
      simp only [F__law_weight, m__law_weight, fnF, sSeq, sIf, sRet, sNext, sAsg, hName, gB, fCall, fCons, fNil, fVar, fC, fOp, asB, fLst, allD, pI, ifS, subI, powI, ltI, Option.bind_some, Option.map_some, List.getElem?_cons_zero, List.getElem?_cons_succ, List.length_cons, List.length_nil, List.set_cons_zero, List.set_cons_succ, List.map_cons, List.map_nil, List.replicate_zero, List.replicate_succ, List.cons_append, List.nil_append, if_true, ite_false, Nat.reduceAdd, Nat.reduceSub, Bool.false_eq_true, e1, c, e_K1, e2, e3, eqII, c7, p1, p2, addII, e4, sz, e5, e6, e_least M5 x0.1 b0 (wsm (by omega) (by omega))]
theorem e_stream {ns : List Int} {k : Int} {M : Sto} (k0 : 0 ≤ k) (k1 : k < 1000) : ∃ M', F__law_stream [.d (.list (ns.map .int)), I k] M = some (.c M.length, M') ∧ Stm M' M.length := by
  have hl : lenF [.d (.list (ns.map .int))] M = some (I ns.length, M) := by
    show some (I ((ns.map PyData.int).length : Nat), M) = _
    rw [List.length_map]
  have k2 : k ≤ 1000 := by omega
  have kq := Int.mul_le_mul k2 k2 k0 (by decide)
  have kk : 0 ≤ k * k ∧ k * k ≤ 1000000 := ⟨Int.mul_nonneg k0 k0, by omega⟩
  have o1 : mulOk k k = true := mulOk_r (by omega)
  have sz : (2 : Nat) ≤ sizeLine := by decide
  have last : ∀ x y : Int, 0 ≤ x → 0 ≤ y → y < 2 ^ 40 → Stm (M ++ [.lst [I x, I y]]) M.length := fun x y h1 h2 h3 => ⟨x, y, by simp, h1, h2, h3⟩
  cases c : decide (k < (ns.length : Int)) with
  | false =>
    refine ⟨M ++ [.lst [I 0, I (k * k + 11)]], ?_, last _ _ (by decide) (by omega) (by omega)⟩
    simp only [F__law_stream, m__law_stream, fnF, sSeq, sIf, sRet, sNext, sAsg, hName, gB, fCall, fCons, fNil, fVar, fC, fOp, asB, fNew, pI, ifS, mulI, modI, powI, ltI, Option.bind_some, List.getElem?_cons_zero, List.getElem?_cons_succ, List.length_cons, List.length_nil, List.set_cons_zero, List.set_cons_succ, List.map_cons, List.map_nil, List.replicate_zero, List.replicate_succ, List.cons_append, List.nil_append, if_true, ite_false, Nat.reduceAdd, Nat.reduceSub, Bool.false_eq_true, hl, c, o1, addII, sz]
  | true =>
    have hk : k < (ns.length : Int) := of_decide_eq_true c
    have hlt : k.toNat < ns.length := by omega
    have hd : (ns.map PyData.int)[k.toNat]? = some (.int ns[k.toNat]) := by rw [List.getElem?_map, List.getElem?_eq_getElem hlt]; rfl
    have hx := ixL (M := M) hd
    rw [Int.toNat_of_nonneg k0] at hx
    generalize ns[k.toNat] = x at hx
    have o2 : modOk x 2147483629 = true := modOk_t (by decide)
    have p1 : powOk 10 18 = true := by decide
    have q0 := Int.emod_nonneg x (b := 2147483629) (by decide)
    have q1 := Int.emod_lt_of_pos x (b := 2147483629) (by decide)
    have q18 : (10 : Int) ^ (18 : Int).toNat = 1000000000000000000 := rfl
    cases c2 : decide (x < 10 ^ (18 : Int).toNat) with
    | true =>
      refine ⟨M ++ [.lst [I 0, I (x % 2147483629 + k * k + 1)]], ?_, last _ _ (by decide) (by omega) (by omega)⟩
      simp only [F__law_stream, m__law_stream, fnF, sSeq, sIf, sRet, sNext, sAsg, hName, gB, fCall, fCons, fNil, fVar, fC, fOp, asB, fNew, pI, ifS, mulI, modI, powI, ltI, Option.bind_some, List.getElem?_cons_zero, List.getElem?_cons_succ, List.length_cons, List.length_nil, List.set_cons_zero, List.set_cons_succ, List.map_cons, List.map_nil, List.replicate_zero, List.replicate_succ, List.cons_append, List.nil_append, if_true, Nat.reduceAdd, Nat.reduceSub, hl, c, hx, o1, o2, p1, addII, c2, sz]
    | false =>
      have := of_decide_eq_false c2
      refine ⟨M ++ [.lst [I x, I (x % 2147483629 + k * k + 1)]], ?_, last _ _ (by omega) (by omega) (by omega)⟩
      simp only [F__law_stream, m__law_stream, fnF, sSeq, sIf, sRet, sNext, sAsg, hName, gB, fCall, fCons, fNil, fVar, fC, fOp, asB, fNew, pI, ifS, mulI, modI, powI, ltI, Option.bind_some, List.getElem?_cons_zero, List.getElem?_cons_succ, List.length_cons, List.length_nil, List.set_cons_zero, List.set_cons_succ, List.map_cons, List.map_nil, List.replicate_zero, List.replicate_succ, List.cons_append, List.nil_append, if_true, ite_false, Nat.reduceAdd, Nat.reduceSub, Bool.false_eq_true, hl, c, hx, o1, o2, p1, addII, c2, sz]
end Q4

end

section
set_option Elab.async false
set_option linter.all false
set_option maxRecDepth 100000
set_option maxHeartbeats 2000000
namespace Q4
open PySem PySem.Spec PyProof.Rows L2
theorem Rds.int {M : Sto} {y : CD} {a : Int} (h : Rds M y (.int a)) : y = I a := by
  cases y with
  | d z => rw [Rds, snap_d] at h; cases h; rfl
  | c i =>
    unfold Rds snap at h
    cases e : M[i]? with
    | none => rw [e] at h; cases h
    | some c =>
      rw [e] at h
      cases c with
      | lst xs => obtain ⟨es, _, h⟩ := bindE (show (snaps 4 M xs).bind _ = _ from h); cases h
      | _ => cases h
theorem Rds.at {M : Sto} {x : CD} {d : PyData} {ds : List PyData} {j : Nat} {a : Int} (h : Rds M x d) (hd : itemsD d = some ds) (hj : ds[j]? = some (.int a)) : ixF x (I j) M = some (I a, M) := by
  obtain ⟨y, h1, h2⟩ := (h.items hd).2 j _ hj
  rw [h1, h2.int]
theorem e_whole_int {a : Int} {M : Sto} : F_is_whole [I a] M = some (B true, M) := e_is_whole Rds.d
theorem e_weight_ok {x : CD} {d : PyData} {a b : Int} {M : Sto} (h : Rds M x d) (hd : itemsD d = some [.int a, .int b]) (hw : wgtI a b = true) : F_is_weight [x] M = some (B true, M) := by
  unfold wgtI at hw
  simp only [Bool.and_eq_true, decide_eq_true_eq] at hw
  obtain ⟨⟨⟨⟨a0, b1⟩, b2⟩, b3⟩, a1⟩ := hw
  have i0 : ixF x (I 0) M = some (I a, M) := h.at hd (j := 0) rfl
  have i1 : ixF x (I 1) M = some (I b, M) := h.at hd (j := 1) rfl
  have r2 : F_is_row_of [x, I 2] M = some (B true, M) := e_is_row_of 2 h hd
  have g0 : (decide (a ≥ 0)) = true := by simpa using a0
  have g1 : (decide (b ≥ 1)) = true := by simpa using b1
  have n1 : F_has_amount_numbers [x] M = some (B true, M) := by
    simp only [F_has_amount_numbers, m_has_amount_numbers, fnF, sSeq, sIf, sRet, sNext, gOr, gNot, gB, fCall, fCons, fNil, fVar, fC, fOp, fAnd, asB, pI, geI, Option.bind_some, List.getElem?_cons_zero, List.length_cons, List.length_nil, List.map_cons, List.map_nil, List.replicate_zero, List.append_nil, if_true, ite_false, Nat.reduceAdd, Nat.reduceSub, Bool.not_true, Bool.false_eq_true, r2, i0, i1, e_whole_int, g0, g1]
  have p1 : F_is_in_parts [x] M = some (B true, M) := by
    have mo : modOk 55440 b = true := modOk_t (by omega)
    have cm := e_common (a := a) (b := b) M a0 (by omega)
    have b3' : (((Int.gcd a b : Nat) : Int) == 1) = true := by
      have : Int.gcd a b = 1 := by simpa using b3
      rw [this]; rfl
    simp only [F_is_in_parts, m_is_in_parts, fnF, sRet, fCall, fCons, fNil, fVar, fC, fOp, fAnd, asB, pI, ifS, modI, Option.bind_some, List.getElem?_cons_zero, List.length_cons, List.length_nil, List.map_cons, List.map_nil, List.replicate_zero, List.append_nil, if_true, Nat.reduceAdd, Nat.reduceSub, n1, i0, i1, mo, eqII, b2, cm, b3']
  have l1 : (decide (a ≤ 1000000000000)) = true := by simpa using a1
  simp only [F_is_weight, m_is_weight, fnF, sRet, fCall, fCons, fNil, fVar, fC, fOp, fAnd, asB, pI, leI, Option.bind_some, List.getElem?_cons_zero, List.length_cons, List.length_nil, List.map_cons, List.map_nil, List.replicate_zero, List.append_nil, if_true, Nat.reduceAdd, Nat.reduceSub, p1, i0, l1]
def TieD (n : Int) (d : PyData) (i j a b : Int) : Prop := ∃ w, itemsD d = some [.int i, .int j, w] ∧ itemsD w = some [.int a, .int b] ∧ wgtI a b = true ∧ 0 ≤ i ∧ i < j ∧ j < n
theorem e_is_tie {x : CD} {d : PyData} {n i j a b : Int} {M : Sto} (h : Rds M x d) (t : TieD n d i j a b) : F_is_tie [I n, x] M = some (B true, M) := by
  obtain ⟨w, hd, hw, hv, i0, ij, jn⟩ := t
  have x0 : ixF x (I 0) M = some (I i, M) := h.at hd (j := 0) rfl
  have x1 : ixF x (I 1) M = some (I j, M) := h.at hd (j := 1) rfl
  obtain ⟨y, x2, hy⟩ := (h.items hd).2 2 w rfl
  have x2 : ixF x (I 2) M = some (y, M) := x2
  have r3 : F_is_row_of [x, I 3] M = some (B true, M) := e_is_row_of 3 h hd
  have pl : ∀ k : Int, 0 ≤ k → k < n → F_is_place [I n, I k] M = some (B true, M) := fun k k0 k1 => by
    have c0 : decide (0 ≤ k) = true := decide_eq_true k0
    have c1 : decide (k < n) = true := decide_eq_true k1
    simp only [F_is_place, m_is_place, fnF, sRet, fCall, fCons, fNil, fVar, fC, fAnd, fChain, asB, pI, ltI, leI, Option.bind_some, List.getElem?_cons_zero, List.getElem?_cons_succ, List.length_cons, List.length_nil, List.map_cons, List.map_nil, List.replicate_zero, List.append_nil, if_true, Nat.reduceAdd, Nat.reduceSub, e_whole_int, c0, c1]
  have ne : (!(i == j)) = true := by simp; omega
  have u : F_are_unlike_places [I n, I i, I j] M = some (B true, M) := by
    simp only [F_are_unlike_places, m_are_unlike_places, fnF, sRet, fCall, fCons, fNil, fVar, fOp, fAnd, asB, Option.bind_some, List.getElem?_cons_zero, List.getElem?_cons_succ, List.length_cons, List.length_nil, List.map_cons, List.map_nil, List.replicate_zero, List.append_nil, if_true, Nat.reduceAdd, Nat.reduceSub, pl i i0 (by omega), pl j (by omega) jn, neII, ne]
  have lt : decide (i < j) = true := decide_eq_true ij
  have bt : F_is_between_places [I n, x] M = some (B true, M) := by
    simp only [F_is_between_places, m_is_between_places, fnF, sRet, fCall, fCons, fNil, fVar, fC, fOp, fAnd, asB, pI, ltI, Option.bind_some, List.getElem?_cons_zero, List.getElem?_cons_succ, List.length_cons, List.length_nil, List.map_cons, List.map_nil, List.replicate_zero, List.append_nil, if_true, Nat.reduceAdd, Nat.reduceSub, r3, x0, x1, u, lt]
  have wt := e_weight_ok hy hw hv
  simp only [F_is_tie, m_is_tie, fnF, sRet, fCall, fCons, fNil, fVar, fC, fOp, fAnd, asB, Option.bind_some, List.getElem?_cons_zero, List.getElem?_cons_succ, List.length_cons, List.length_nil, List.map_cons, List.map_nil, List.replicate_zero, List.append_nil, if_true, Nat.reduceAdd, Nat.reduceSub, bt, x2, wt]
end Q4

end

section
set_option Elab.async false
set_option linter.all false
set_option maxRecDepth 100000
set_option maxHeartbeats 2000000
namespace Q4
open PySem PySem.Spec PyProof.Rows L2
theorem get_app {M L : Sto} {i : Nat} {c : Cell} (h : M[i]? = some c) : (M ++ L)[i]? = some c := by
  rw [List.getElem?_append_left (List.getElem?_eq_some_iff.mp h).1]; exact h
mutual
theorem snap_app {M L : Sto} : ∀ (n : Nat) (x : CD) (d : PyData), snap n M x = some d → snap n (M ++ L) x = some d
  | n, .d y, d, h => by rw [snap_d] at h ⊢; exact h
  | 0, .c i, d, h => by unfold snap at h; cases h
  | n + 1, .c i, d, h => by
    unfold snap at h ⊢
    cases e : M[i]? with
    | none => rw [e] at h; cases h
    | some c =>
      rw [e] at h
      rw [get_app e]
      cases c with
      | lst xs =>
        obtain ⟨ds, h1, h⟩ := bindE (show (snaps n M xs).bind _ = _ from h)
        cases h
        show (snaps n (M ++ L) xs).bind _ = _
        rw [snaps_app n xs ds h1]
        rfl
      | _ => cases h
theorem snaps_app {M L : Sto} : ∀ (n : Nat) (xs : List CD) (ds : List PyData), snaps n M xs = some ds → snaps n (M ++ L) xs = some ds
  | _, [], ds, h => by unfold snaps at h ⊢; exact h
  | n, x :: xs, ds, h => by
    unfold snaps at h ⊢
    obtain ⟨d, h1, h⟩ := bindE h
    obtain ⟨es, h2, h⟩ := bindE h
    cases h
    rw [snap_app n x d h1]
    show (snaps n (M ++ L) xs).bind _ = _
    rw [snaps_app n xs es h2]
    rfl
end
theorem Rds.app {M L : Sto} {x : CD} {d : PyData} (h : Rds M x d) : Rds (M ++ L) x d := snap_app 5 x d h
theorem Rds.walk {M : Sto} {x : CD} {d : PyData} {ds : List PyData} (h : Rds M x d) (hd : itemsD d = some ds) : ∃ xs P, walked M x = some (xs, P) ∧ xs.length = ds.length ∧ (∀ (j : Nat) e, ds[j]? = some e → ∃ y, xs[j]? = some y ∧ Rds M y e) ∧ ∀ L, P (M ++ L) := by
  cases x with
  | d z =>
    rw [Rds, snap_d] at h
    cases h
    refine ⟨ds.map .d, fun _ => True, by show (itemsD d).bind _ = _; rw [hd]; rfl, by rw [List.length_map], fun j e he => ⟨.d e, by rw [List.getElem?_map, he]; rfl, snap_d⟩, fun _ => True.intro⟩
  | c i =>
    unfold Rds snap at h
    cases e : M[i]? with
    | none => rw [e] at h; cases h
    | some c =>
      rw [e] at h
      cases c with
      | lst xs =>
        obtain ⟨es, h1, h⟩ := bindE (show (snaps 4 M xs).bind _ = _ from h)
        cases h
        cases hd
        obtain ⟨k1, k2⟩ := snaps_at h1
        refine ⟨xs, fun M' => M'[i]? = some (.lst xs), by simp only [walked, e], k1, fun j f hf => ?_, fun L => get_app e⟩
        obtain ⟨y, hy, hs⟩ := k2 j f hf
        exact ⟨y, hy, snap_up 4 y f hs⟩
      | _ => cases h
theorem snap_int {M : Sto} {n : Nat} {y : CD} {a : Int} (h : snap n M y = some (.int a)) : y = I a := by
  cases y with
  | d z => rw [snap_d] at h; cases h; rfl
  | c i =>
    cases n with
    | zero => unfold snap at h; cases h
    | succ n =>
      unfold snap at h
      cases e : M[i]? with
      | none => rw [e] at h; cases h
      | some c =>
        rw [e] at h
        cases c with
        | lst xs => obtain ⟨es, _, h⟩ := bindE (show (snaps n M xs).bind _ = _ from h); cases h
        | _ => cases h
theorem Rds.tuple2 {M : Sto} {y : CD} {w : PyData} {a b : Int} (h : Rds M y w) (hw : itemsD w = some [.int a, .int b]) : tupleF [y] M = some (.d (.tuple [.int a, .int b]), M) := by
  cases y with
  | d z =>
    rw [Rds, snap_d] at h
    cases h
    cases w <;> first | (cases hw; rfl) | cases hw
  | c i =>
    unfold Rds snap at h
    cases e : M[i]? with
    | none => rw [e] at h; cases h
    | some c =>
      rw [e] at h
      cases c with
      | lst xs =>
        obtain ⟨es, h1, h⟩ := bindE (show (snaps 4 M xs).bind _ = _ from h)
        cases h
        cases hw
        obtain ⟨k1, k2⟩ := snaps_at h1
        match xs, k1, k2 with
        | [p, q], _, k2 =>
          obtain ⟨p', e1, e2⟩ := k2 0 _ rfl
          cases e1
          obtain ⟨q', e3, e4⟩ := k2 1 _ rfl
          cases e3
          rw [snap_int e2, snap_int e4] at e
          simp only [tupleF, e]
          rfl
      | _ => cases h
structure Tie where
  i : Int
  j : Int
  a : Int
  b : Int
deriving DecidableEq
def Tie.key (t : Tie) : List Key := [.inl t.i, .inl t.j]
def Tie.val (t : Tie) : CD := .d (.tuple [.int t.a, .int t.b])
def kvOf (ts : List Tie) : List (List Key × CD) := ts.map fun t => (t.key, t.val)
theorem lk_none {ts : List Tie} {t : Tie} (h : ∀ s ∈ ts, s.key ≠ t.key) : lkC (kvOf ts) t.key = none := by
  unfold lkC kvOf
  rw [List.find?_map]
  have : List.find? ((fun kv => decide (kv.1 = t.key)) ∘ fun s : Tie => (s.key, s.val)) ts = none := List.find?_eq_none.mpr fun s hs => by simpa using h s hs
  rw [this]
  rfl
theorem put_new {ts : List Tie} {t : Tie} (h : ∀ s ∈ ts, s.key ≠ t.key) : putD (kvOf ts) t.key t.val = kvOf (ts ++ [t]) := by
  unfold putD
  have : ((kvOf ts).any fun kv => decide (kv.1 = t.key)) = false := by
    rw [kvOf, List.any_map]
    exact List.any_eq_false.mpr fun s hs => by simpa using h s hs
  rw [this, if_neg Bool.false_ne_true]
  unfold kvOf
  rw [List.map_append]
  rfl
theorem sz {n : Nat} (hn : n ≤ 1000) : n ≤ sizeLine := by rw [sizeLine_eq]; exact Nat.le_trans hn (by decide)
theorem kept_turn {M : Sto} {n : Int} {x y k : CD} {d : PyData} {ts : List Tie} {t : Tie} (h : Rds M y d) (tt : TieD n d t.i t.j t.a t.b) (nk : ∀ s ∈ ts, s.key ≠ t.key) (hl : ts.length < 1000) :
    L_kept_ties_0 [some (I n), some x, some (.c M.length), some k, some y] (M ++ [.dt (kvOf ts)]) = some (.nx [some (I n), some x, some (.c M.length), some k, some y], M ++ [.dt (kvOf (ts ++ [t]))]) := by
  have hA := h.app (L := [.dt (kvOf ts)])
  have ti := e_is_tie hA tt
  obtain ⟨w, hd, hw, hv, _⟩ := tt
  have x0 : ixF y (I 0) (M ++ [.dt (kvOf ts)]) = some (I t.i, M ++ [.dt (kvOf ts)]) := hA.at hd (j := 0) rfl
  have x1 : ixF y (I 1) (M ++ [.dt (kvOf ts)]) = some (I t.j, M ++ [.dt (kvOf ts)]) := hA.at hd (j := 1) rfl
  obtain ⟨z, x2, hz⟩ := (hA.items hd).2 2 w rfl
  have x2 : ixF y (I 2) (M ++ [.dt (kvOf ts)]) = some (z, M ++ [.dt (kvOf ts)]) := x2
  have tu := hz.tuple2 hw
  have hD : (M ++ [.dt (kvOf ts)])[M.length]? = some (.dt (kvOf ts)) := by rw [List.getElem?_append_right (Nat.le_refl _), Nat.sub_self]; rfl
  have at_ : atD (M ++ [.dt (kvOf ts)]) (.c M.length) (.inr t.key) = some none := by simp only [atD, hD, lk_none nk]
  have len : (kvOf ts).length < sizeLine := by unfold kvOf; rw [List.length_map, sizeLine_eq]; omega
  have st : setD (M ++ [.dt (kvOf ts)]) (.c M.length) (.inr t.key) t.val = some (M ++ [.dt (kvOf (ts ++ [t]))]) := by
    simp only [setD, hD, if_pos len, put_new nk]
    rw [List.set_append_right _ _ (Nat.le_refl _), Nat.sub_self]
    rfl
  have kk : ∀ N : Sto, keysOf [I t.i, I t.j] = some t.key := fun _ => rfl
  have l2 : (Tie.key t).length ≤ sizeLine := sz (show 2 ≤ 1000 by decide)
  have st' : setD (M ++ [.dt (kvOf ts)]) (.c M.length) (.inr t.key) (.d (.tuple [.int t.a, .int t.b])) = some (M ++ [.dt (kvOf (ts ++ [t]))]) := st
  simp only [L_kept_ties_0, sSeq, sIf, sNext, gOr, gNot, gB, fCall, fCons, fNil, fVar, fC, fOp, asB, Option.bind_some, List.getElem?_cons_zero, List.getElem?_cons_succ, ite_false, Bool.not_true, Bool.false_eq_true, ti, fDIn, kTup, x0, x1, x2, kk M, if_pos l2, at_, sDPutF, tu, st', Option.isSome_none]
def TieC (M : Sto) (n : Int) (z : CD) (t : Tie) : Prop := ∃ e, Rds M z e ∧ TieD n e t.i t.j t.a t.b
theorem kept_loop {M : Sto} {n : Int} {x : CD} {P : Sto → Prop} (hP : ∀ L, P (M ++ L)) : ∀ {zs : List CD} {us : List Tie} (ts : List Tie) (k : Nat) (g3 g4 : Option CD), Paired (TieC M n) zs us → ((ts ++ us).map Tie.key).Nodup → ts.length + us.length < 1000 →
    ∃ g3' g4', forE P (hCons (hName 3) (hCons (hName 4) hNil)) L_kept_ties_0 k zs [some (I n), some x, some (.c M.length), g3, g4] (M ++ [.dt (kvOf ts)]) = some (.nx [some (I n), some x, some (.c M.length), g3', g4'], M ++ [.dt (kvOf (ts ++ us))])
  | _, _, ts, k, g3, g4, .nil, _, _ => ⟨g3, g4, by unfold forE; rw [if_pos (hP _), List.append_nil]⟩
  | z :: zs, t :: us, ts, k, g3, g4, .cons r1 r2, nd, hl => by
    obtain ⟨e, hr, ht⟩ := r1
    have nk : ∀ s ∈ ts, s.key ≠ t.key := fun s hs q => by
      rw [List.map_append, List.nodup_append] at nd
      exact nd.2.2 _ (List.mem_map_of_mem hs) _ (by rw [List.map_cons]; exact List.mem_cons_self) q
    have hl' : ts.length < 1000 := by omega
    have turn := kept_turn (x := x) (k := I (k : Nat)) hr ht nk hl'
    obtain ⟨a, b, ih⟩ := kept_loop (x := x) hP (ts ++ [t]) (k + 1) (some (I (k : Nat))) (some z) r2 (by rw [List.append_assoc]; exact nd) (by rw [List.length_append]; simp only [List.length_cons, List.length_nil] at hl ⊢; omega)
    refine ⟨a, b, ?_⟩
    unfold forE
    rw [if_pos (hP _)]
    have g1 : hCons (hName 3) (hCons (hName 4) hNil) [.d (.int k), z] [some (I n), some x, some (.c M.length), g3, g4] (M ++ [.dt (kvOf ts)]) = some ([some (I n), some x, some (.c M.length), some (I (k : Nat)), some z], M ++ [.dt (kvOf ts)]) := rfl
    rw [g1, Option.bind_some]
    dsimp only
    rw [turn, Option.bind_some]
    dsimp only
    rw [ih, List.append_assoc]
    rfl
end Q4

end

section
set_option Elab.async false
set_option linter.all false
set_option maxRecDepth 100000
set_option maxHeartbeats 2000000
namespace Q4
open PySem PySem.Spec PyProof.Rows L2
def Tie.lt (s t : Tie) : Prop := s.i < t.i ∨ (s.i = t.i ∧ s.j < t.j)
instance (s t : Tie) : Decidable (Tie.lt s t) := by unfold Tie.lt; infer_instance
theorem key_ne {s t : Tie} (h : s.key ≠ t.key) : ¬ (s.i = t.i ∧ s.j = t.j) := fun ⟨a, b⟩ => h (by unfold Tie.key; rw [a, b])
theorem Tie.lt_tot {s t : Tie} (h : s.key ≠ t.key) (n : ¬ Tie.lt t s) : Tie.lt s t := by
  have := key_ne h
  unfold Tie.lt at n ⊢
  omega
theorem Tie.lt_tr {s t u : Tie} (h : Tie.lt s t) (k : Tie.lt t u) : Tie.lt s u := by unfold Tie.lt at h k ⊢; omega
theorem Tie.lt_ir {s : Tie} (h : Tie.lt s s) : False := by unfold Tie.lt at h; omega
theorem sorted_one : ∀ {xs ys : List Tie}, xs.Pairwise Tie.lt → ys.Pairwise Tie.lt → xs.Perm ys → xs = ys
  | [], ys, _, _, p => (List.nil_perm.mp p).symm
  | x :: xs, [], _, _, p => absurd p.length_eq (by simp)
  | x :: xs, y :: ys, hx, hy, p => by
    obtain ⟨x1, x2⟩ := List.pairwise_cons.mp hx
    obtain ⟨y1, y2⟩ := List.pairwise_cons.mp hy
    have e : x = y := by
      have mx : x ∈ y :: ys := p.mem_iff.mp List.mem_cons_self
      have my : y ∈ x :: xs := p.mem_iff.mpr List.mem_cons_self
      rcases List.mem_cons.mp mx with e | mx
      · exact e
      · rcases List.mem_cons.mp my with e | my
        · exact e.symm
        · exact (Tie.lt_ir (Tie.lt_tr (x1 y my) (y1 x mx))).elim
    subst e
    rw [sorted_one x2 y2 (List.perm_cons x |>.mp p)]
structure RowFn (f : Tie → List PyData) : Prop where
  sh : ∀ t, (f t).all SeqAt.shaped = true
  on : ∀ t, onlyTs (f t) = true
  hd : ∀ us : List Tie, (headI (us.map f) || headT (us.map f)) = true
  lt : ∀ s t, s.key ≠ t.key → ltRow (f s) (f t) = some (decide (Tie.lt s t))
  eq : ∀ s, (ltRow (f s) (f s)).isSome = true
def f1 (t : Tie) : List PyData := [.tuple [.int t.i, .int t.j], .tuple [.int t.a, .int t.b]]
def f2 (t : Tie) : List PyData := [.int t.i, .int t.j, .tuple [.int t.a, .int t.b]]
theorem eqv_ij {a b : Int} : PyData.eqv (.int a) (.int b) = (a == b) := rfl
theorem eqv_tt {a b c d : Int} : PyData.eqv (.tuple [.int a, .int b]) (.tuple [.int c, .int d]) = (a == c && (b == d && true)) := rfl
theorem rf1 : RowFn f1 := by
  refine ⟨fun t => rfl, fun t => rfl, fun us => ?_, fun s t h => ?_, fun s => ?_⟩
  · rw [Bool.or_eq_true]
    exact .inr (by unfold headT; rw [List.all_map]; exact List.all_eq_true.mpr fun t _ => rfl)
  · have k := key_ne h
    have e : (s.i == t.i && (s.j == t.j && true)) = false := by
      rw [Bool.and_true, Bool.and_eq_false_iff]
      by_cases q : s.i = t.i
      · exact .inr (by simpa using fun z => k ⟨q, z⟩)
      · exact .inl (by simpa using q)
    unfold f1 ltRow
    rw [eqv_tt, e, if_neg Bool.false_ne_true]
    show some (HT.lexLt [s.i, s.j] [t.i, t.j]) = _
    congr 1
    rw [HT.lexLt_cons, HT.lexLt_cons]
    by_cases q : s.i = t.i
    · have q' : ¬ s.j = t.j := fun z => k ⟨q, z⟩
      rw [if_pos q, if_neg q']
      simp [Tie.lt, q]
    · rw [if_neg q]
      simp [Tie.lt, q]
  · unfold f1 ltRow
    rw [eqv_tt]
    simp only [beq_self_eq_true, Bool.and_true, if_true]
    unfold ltRow
    rw [eqv_tt]
    simp only [beq_self_eq_true, Bool.and_true, if_true]
    rfl
theorem rf2 : RowFn f2 := by
  refine ⟨fun t => rfl, fun t => rfl, fun us => ?_, fun s t h => ?_, fun s => ?_⟩
  · rw [Bool.or_eq_true]
    exact .inl (by unfold headI; rw [List.all_map]; exact List.all_eq_true.mpr fun t _ => rfl)
  · have k := key_ne h
    unfold f2 ltRow
    rw [eqv_ij]
    by_cases q : s.i = t.i
    · have q' : ¬ s.j = t.j := fun z => k ⟨q, z⟩
      have e1 : (s.i == t.i) = true := by simpa using q
      have e2 : (s.j == t.j) = false := by simpa using q'
      rw [e1, if_pos rfl]
      unfold ltRow
      rw [eqv_ij, e2, if_neg Bool.false_ne_true]
      show some (decide (s.j < t.j)) = _
      simp [Tie.lt, q]
    · have e1 : (s.i == t.i) = false := by simpa using q
      rw [e1, if_neg Bool.false_ne_true]
      show some (decide (s.i < t.i)) = _
      simp [Tie.lt, q]
  · unfold f2 ltRow
    rw [eqv_ij]
    simp only [beq_self_eq_true, if_true]
    unfold ltRow
    rw [eqv_ij]
    simp only [beq_self_eq_true, if_true]
    unfold ltRow
    rw [eqv_tt]
    simp only [beq_self_eq_true, Bool.and_true, if_true]
    rfl
theorem at_map {f : Tie → List PyData} {us : List Tie} {i : Nat} (h : i < us.length) : (us.map f).getD i [] = f us[i] := by
  rw [List.getD_eq_getElem?_getD, List.getElem?_map, List.getElem?_eq_getElem h]; rfl
theorem nd_at {us : List Tie} (nd : (us.map Tie.key).Nodup) {i j : Nat} (hi : i < us.length) (hj : j < us.length) (h : i ≠ j) : us[i].key ≠ us[j].key := fun q => by
  have := (List.getElem_inj (h₀ := by rw [List.length_map]; exact hi) (h₁ := by rw [List.length_map]; exact hj) nd).mp (by rw [List.getElem_map, List.getElem_map]; exact q)
  exact h this
theorem able {f : Tie → List PyData} (R : RowFn f) {us : List Tie} (nd : (us.map Tie.key).Nodup) (h2 : 2 ≤ us.length) (h64 : us.length < 64) : sortable (us.map f) = true := by
  unfold sortable
  rw [List.length_map, decide_eq_true h2, decide_eq_true h64, R.hd us, Bool.true_and, Bool.true_and, Bool.and_true, Bool.and_eq_true]
  refine ⟨List.all_eq_true.mpr fun r hr => ?_, List.all_eq_true.mpr fun i hi => List.all_eq_true.mpr fun j hj => ?_⟩
  · obtain ⟨t, _, rfl⟩ := List.mem_map.mp hr
    rw [R.sh, R.on]; rfl
  · have hi := List.mem_range.mp hi
    have hj := List.mem_range.mp hj
    rw [at_map hi, at_map hj]
    by_cases q : i = j
    · subst q; exact R.eq _
    · rw [R.lt _ _ (nd_at nd hi hj q)]; rfl
theorem ltIx_at {f : Tie → List PyData} (R : RowFn f) {us : List Tie} {i j : Nat} (hi : i < us.length) (hj : j < us.length) (k : us[i].key ≠ us[j].key) : ltIx (us.map f) i j = decide (Tie.lt us[i] us[j]) := by
  unfold ltIx
  rw [at_map hi, at_map hj, R.lt _ _ k]
  rfl
def t0 : Tie := ⟨0, 0, 0, 0⟩
theorem range_map (us : List Tie) : (List.range us.length).map (fun i => us.getD i t0) = us := by
  refine List.ext_getElem? fun i => ?_
  rw [List.getElem?_map]
  by_cases h : i < us.length
  · rw [List.getElem?_range h, List.getElem?_eq_getElem h]
    show some (us.getD i t0) = _
    rw [List.getD_eq_getElem?_getD, List.getElem?_eq_getElem h]; rfl
  · rw [List.getElem?_eq_none (by rw [List.length_range]; omega), List.getElem?_eq_none (by omega)]; rfl
theorem getD_t {us : List Tie} {i : Nat} (h : i < us.length) : us.getD i t0 = us[i] := by
  rw [List.getD_eq_getElem?_getD, List.getElem?_eq_getElem h]; rfl
theorem sort_rows {f : Tie → List PyData} (R : RowFn f) {us : List Tie} (nd : (us.map Tie.key).Nodup) (h64 : us.length < 64) : ∃ vs : List Tie, vs.Perm us ∧ vs.Pairwise Tie.lt ∧ sortRows (us.map f) = some (vs.map fun t => .tuple (f t)) ∧ (2 ≤ us.length → sortD (us.map f) = vs.map fun t => .tuple (f t)) ∧ (us.length < 2 → vs = us) := by
  by_cases h2 : 2 ≤ us.length
  · have ab := able R nd h2 h64
    have pm := sortIx_perm (n := (us.map f).length) (ltIx (us.map f)) (by rw [List.length_map]; omega)
    have so := sortIx_sorted ab
    rw [List.length_map] at pm so
    have mem : ∀ i ∈ sortIx (ltIx (us.map f)) us.length, i < us.length := fun i hi => List.mem_range.mp (pm.mem_iff.mp hi)
    have sd : sortD (us.map f) = ((sortIx (ltIx (us.map f)) us.length).map fun i => us.getD i t0).map fun t => .tuple (f t) := by
      unfold sortD
      rw [List.length_map, List.map_map]
      refine List.map_congr_left fun i hi => ?_
      show PyData.tuple ((us.map f).getD i []) = .tuple (f (us.getD i t0))
      rw [at_map (mem i hi), getD_t (mem i hi)]
    refine ⟨(sortIx (ltIx (us.map f)) us.length).map fun i => us.getD i t0, ?_, ?_, ?_, fun _ => sd, fun q => by omega⟩
    · have := pm.map fun i => us.getD i t0
      rwa [range_map] at this
    · rw [List.pairwise_map]
      have nd2 : (sortIx (ltIx (us.map f)) us.length).Nodup := pm.nodup_iff.mpr List.nodup_range
      have len : (sortIx (ltIx (us.map f)) us.length).length = us.length := by rw [pm.length_eq, List.length_range]
      rw [List.pairwise_iff_getElem]
      intro a b ha hb hab
      have hx := mem _ (List.getElem_mem ha)
      have hy := mem _ (List.getElem_mem hb)
      have g : ∀ c (hc : c < (sortIx (ltIx (us.map f)) us.length).length), (kRun (ltIx (us.map f)) (PySem.W.kas_sort us.length)).getD c 0 = (sortIx (ltIx (us.map f)) us.length)[c] := fun c hc => by
        unfold sortIx at hc ⊢
        rw [Array.length_toList] at hc
        simp [Array.getD, hc]
      have s1 := so a b hab (by rw [← len]; exact hb)
      rw [g a ha, g b hb] at s1
      have ne : (sortIx (ltIx (us.map f)) us.length)[b] ≠ (sortIx (ltIx (us.map f)) us.length)[a] := fun q => by
        have := (List.getElem_inj nd2).mp q
        omega
      have kn := nd_at nd hy hx ne
      rw [ltIx_at R hy hx kn] at s1
      rw [getD_t hx, getD_t hy]
      exact Tie.lt_tot (Ne.symm kn) (of_decide_eq_false s1)
    · unfold sortRows
      rw [ab, if_pos rfl, sd]
  · have hl : us.length < 2 := by omega
    refine ⟨us, .refl _, ?_, ?_, fun q => absurd q h2, fun _ => rfl⟩
    · match us, hl with
      | [], _ => exact .nil
      | [t], _ => exact List.pairwise_singleton _ _
    · unfold sortRows
      have : sortable (us.map f) = false := by
        unfold sortable
        rw [List.length_map, decide_eq_false h2]; rfl
      rw [this, if_neg Bool.false_ne_true, List.length_map, if_pos hl, List.map_map]
      rfl
end Q4

end

section
set_option Elab.async false
set_option linter.all false
set_option maxRecDepth 100000
set_option maxHeartbeats 2000000
namespace Q4
open PySem PySem.Spec PyProof.Rows L2
def big (t : Tie) : Bool := decide (t.a > 0)
def outP (vs : List Tie) : List PyData := (vs.filter big).map fun t => .tuple (f2 t)
theorem allD_map : ∀ ds : List PyData, allD (ds.map .d) = some ds
  | [] => rfl
  | d :: ds => by
    show (allD (ds.map .d)).map (d :: ·) = _
    rw [allD_map ds]
    rfl
theorem fLc_of {cap : List (Option Nat)} {f : AF} {g : GF} {c : TF} {ee : EF} {γ : Ga} {M M1 M2 : Sto} {xs : List CD} {ds : List PyData} (it : f γ M = some (xs, M1)) (hl : xs.length ≤ sizeLine) (e : lcF g c ee xs (capG cap γ) M1 = some (ds.map .d, M2)) (hd : ds.length ≤ sizeLine) : fLc cap f g c ee γ M = some (.d (.list ds), M2) := by
  have h1 : lcRun cap f g c ee γ M = some (ds.map .d, M2) := by
    unfold lcRun
    rw [it, Option.bind_some, if_pos hl]
    exact e
  show (lcRun cap f g c ee γ M).bind _ = _
  rw [h1, Option.bind_some, allD_map, Option.bind_some, if_pos hd]
abbrev kG : GF := hTup 2 (hCons (hTup 2 (hCons (hName 0) (hCons (hName 1) hNil))) (hCons (hName 2) hNil))
abbrev kC : TF := gB (fOp gtI (fOp ixF (fVar 2) (fC (.int 0))) (fC (.int 0)))
abbrev kE : EF := fTup (fCons (fVar 0) (fCons (fVar 1) (fCons (fVar 2) fNil)))
theorem kept_comp {M : Sto} : ∀ (vs : List Tie) (s1 s2 s3 : Option CD), lcF kG kC kE (vs.map fun t => .d (.tuple (f1 t))) [s1, s2, s3] M = some ((outP vs).map .d, M)
  | [], _, _, _ => rfl
  | t :: vs, s1, s2, s3 => by
    have ih := kept_comp (M := M) vs (some (I t.i)) (some (I t.j)) (some (.d (.tuple [.int t.a, .int t.b])))
    have g1 : kG (.d (.tuple (f1 t))) [s1, s2, s3] M = some ([some (I t.i), some (I t.j), some (.d (.tuple [.int t.a, .int t.b]))], M) := rfl
    have c1 : kC [some (I t.i), some (I t.j), some (.d (.tuple [.int t.a, .int t.b]))] M = some (big t, M) := rfl
    have e1 : kE [some (I t.i), some (I t.j), some (.d (.tuple [.int t.a, .int t.b]))] M = some (.d (.tuple (f2 t)), M) := by
      have l3 : 3 ≤ sizeLine := sz (by decide)
      simp only [kE, f2, fCons, fNil, fVar, fTup, allD, Option.bind_some, Option.map_some, List.getElem?_cons_zero, List.getElem?_cons_succ, List.length_cons, List.length_nil, Nat.reduceAdd, if_pos l3, Nat.zero_add]
    rw [List.map_cons]
    unfold lcF
    rw [g1, Option.bind_some]
    dsimp only
    rw [c1, Option.bind_some]
    dsimp only
    by_cases hb : big t = true
    · rw [if_pos hb, e1, Option.bind_some]
      dsimp only
      rw [ih, Option.bind_some]
      unfold outP
      rw [List.filter_cons_of_pos hb]
      rfl
    · rw [if_neg hb, ih]
      unfold outP
      rw [List.filter_cons_of_neg hb]
theorem allDV_kv : ∀ us : List Tie, allDV (kvOf us) = some (us.map fun t => (t.key, .tuple [.int t.a, .int t.b]))
  | [] => rfl
  | t :: us => by
    show (allDV (kvOf us)).bind _ = _
    rw [allDV_kv us]
    rfl
theorem rows_kv (us : List Tie) : (us.map fun t => (t.key, PyData.tuple [.int t.a, .int t.b])).map rowT = us.map f1 := by
  rw [List.map_map]; rfl
theorem outP_len {vs : List Tie} (h : vs.length ≤ 1000) : (outP vs).length ≤ sizeLine := by
  unfold outP
  rw [List.length_map]
  exact sz (Nat.le_trans (List.length_filter_le ..) h)
theorem walked_app {M L : Sto} {x : CD} {r : List CD × (Sto → Prop)} (h : walked M x = some r) : walked (M ++ L) x = some r := by
  cases x with
  | d z => exact h
  | c i =>
    cases e : M[i]? with
    | none => simp only [walked, e] at h; cases h
    | some c => simp only [walked, e, get_app e] at h ⊢; exact h
theorem e_kept {M : Sto} {n : Int} {x : CD} {d : PyData} {ds : List PyData} {us : List Tie} (h : Rds M x d) (hd : itemsD d = some ds) (hu : ∀ zs, zs.length = ds.length → (∀ (j : Nat) e, ds[j]? = some e → ∃ y, zs[j]? = some y ∧ Rds M y e) → Paired (TieC M n) zs us) (nd : (us.map Tie.key).Nodup) (h64 : us.length < 64) :
    ∃ vs : List Tie, vs.Perm us ∧ vs.Pairwise Tie.lt ∧ F_kept_ties [I n, x] M = some (.d (.tuple (outP vs)), M ++ [.dt (kvOf us)]) := by
  obtain ⟨vs, pm, pw, sr, _⟩ := sort_rows rf1 nd h64
  refine ⟨vs, pm, pw, ?_⟩
  obtain ⟨zs, P, hw, hz, hr, hP⟩ := h.walk hd
  have hw' := walked_app (L := [.dt (kvOf [])]) hw
  have pr := hu zs hz hr
  obtain ⟨g3, g4, lp⟩ := kept_loop (x := x) hP [] 0 none none pr (by rw [List.nil_append]; exact nd) (by simp only [List.length_nil]; omega)
  rw [List.nil_append] at lp
  have rw1 : F_is_row [x] M = some (B true, M) := by
    rw [e_is_row h]
    cases d <;> first | rfl | cases hd
  have hD : (M ++ [.dt (kvOf us)])[M.length]? = some (.dt (kvOf us)) := by rw [List.getElem?_append_right (Nat.le_refl _), Nat.sub_self]; rfl
  have lv : vs.length < 64 := by rw [pm.length_eq]; exact h64
  have it : fItems (fSortI (fVar 2)) [some (I n), some x, some (.c M.length), g3, g4] (M ++ [.dt (kvOf us)]) = some (vs.map fun t => .d (.tuple (f1 t)), M ++ [.dt (kvOf us)]) := by
    have s1 : fSortI (fVar 2) [some (I n), some x, some (.c M.length), g3, g4] (M ++ [.dt (kvOf us)]) = some (.d (.list (vs.map fun t => .tuple (f1 t))), M ++ [.dt (kvOf us)]) := by
      simp only [fSortI, fVar, Option.bind_some, List.getElem?_cons_zero, List.getElem?_cons_succ, hD, allDV_kv, rows_kv, sr]
    unfold fItems
    rw [s1, Option.bind_some]
    show (some (vs.map fun t => PyData.tuple (f1 t))).bind _ = _
    rw [Option.bind_some, List.map_map]
    rfl
  have cp : C_kept_ties_0 [some (I n), some x, some (.c M.length), g3, g4] (M ++ [.dt (kvOf us)]) = some (.d (.list (outP vs)), M ++ [.dt (kvOf us)]) := by
    unfold C_kept_ties_0
    exact fLc_of it (sz (by rw [List.length_map]; omega)) (kept_comp vs none none none) (outP_len (by omega))
  have tf : tupleF [.d (.list (outP vs))] (M ++ [.dt (kvOf us)]) = some (.d (.tuple (outP vs)), M ++ [.dt (kvOf us)]) := rfl
  have k0 : (M ++ [Cell.dt []]) = M ++ [.dt (kvOf [])] := rfl
  simp only [F_kept_ties, m_kept_ties, fnF, sSeq, sIf, sRet, sNext, sAsg, hName, gNot, gB, fCall, fCons, fNil, fVar, asB, Option.bind_some, List.getElem?_cons_zero, List.getElem?_cons_succ, List.length_cons, List.length_nil, List.set_cons_zero, List.set_cons_succ, List.map_cons, List.map_nil, List.replicate_zero, List.replicate_succ, List.cons_append, List.nil_append, if_true, ite_false, Nat.reduceAdd, Nat.reduceSub, Bool.not_true, Bool.false_eq_true, rw1, fDNewT, k0, sForE, hw', lp, cp, tf]
end Q4

end

section
set_option Elab.async false
set_option linter.all false
set_option maxRecDepth 100000
set_option maxHeartbeats 2000000
namespace Q4
open PySem PySem.Spec PyProof.Rows L2
def rowsP (us : List Tie) : List PyData := us.map fun t => .tuple (f2 t)
def Ok (n : Int) (us : List Tie) : Prop := (∀ t ∈ us, wgtI t.a t.b = true ∧ 0 ≤ t.i ∧ t.i < t.j ∧ t.j < n) ∧ (us.map Tie.key).Nodup ∧ us.length < 64
theorem wgt_big {t : Tie} (h : wgtI t.a t.b = true) : (!(t.a == 0 && (t.b == 1 && true))) = big t := by
  have hb := wgt_b h
  unfold wgtI at h
  simp only [Bool.and_eq_true, beq_iff_eq] at h
  have g : Int.gcd t.a t.b = 1 := h.1.2
  unfold big
  by_cases q : t.a = 0
  · have : t.b = 1 := by
      rw [q, Int.gcd_zero_left] at g
      omega
    rw [q, this]; rfl
  · have e : (t.a == 0) = false := by simpa using q
    have : t.a > 0 := by omega
    rw [e, decide_eq_true this]; rfl
theorem due_comp {M : Sto} : ∀ (us : List Tie) (s : Option CD), (∀ t ∈ us, wgtI t.a t.b = true) → lcF (hName 0) (gB (fOp (eqX true) (fOp ixF (fVar 0) (fC (.int 2))) K__law_due_0)) (fVar 0) ((rowsP us).map .d) [s] M = some ((rowsP (us.filter big)).map .d, M)
  | [], _, _ => rfl
  | t :: us, s, hw => by
    have ih := due_comp (M := M) us (some (.d (.tuple (f2 t)))) fun u hu => hw u (List.mem_cons_of_mem _ hu)
    have c1 : gB (fOp (eqX true) (fOp ixF (fVar 0) (fC (.int 2))) K__law_due_0) [some (.d (.tuple (f2 t)))] M = some (big t, M) := by
      rw [← wgt_big (hw t List.mem_cons_self)]
      rfl
    show lcF _ _ _ (.d (.tuple (f2 t)) :: (rowsP us).map .d) [s] M = _
    unfold lcF
    rw [show hName 0 (.d (.tuple (f2 t))) [s] M = some ([some (.d (.tuple (f2 t)))], M) from rfl, Option.bind_some]
    dsimp only
    rw [c1, Option.bind_some]
    dsimp only
    by_cases hb : big t = true
    · rw [if_pos hb, show fVar 0 [some (.d (.tuple (f2 t)))] M = some (.d (.tuple (f2 t)), M) from rfl, Option.bind_some]
      dsimp only
      rw [ih, Option.bind_some, List.filter_cons_of_pos hb]
      rfl
    · rw [if_neg hb, ih, List.filter_cons_of_neg hb]
theorem rowsOf_rows : ∀ us : List Tie, rowsOf (rowsP us) = some (us.map f2)
  | [] => rfl
  | t :: us => by
    show (rowsOf (rowsP us)).bind _ = _
    rw [rowsOf_rows us]
    rfl
theorem key_filter {us : List Tie} (nd : (us.map Tie.key).Nodup) : ((us.filter big).map Tie.key).Nodup := (List.filter_sublist.map Tie.key).nodup nd
theorem e_due {M : Sto} {n : Int} {us vs : List Tie} (ok : Ok n us) (pm : vs.Perm us) (pw : vs.Pairwise Tie.lt) : F__law_due [.d (.list (rowsP us))] M = some (.d (.tuple (outP vs)), M) := by
  obtain ⟨hw, nd, h64⟩ := ok
  have fl : (us.filter big).length ≤ us.length := List.length_filter_le ..
  obtain ⟨ws, pm2, pw2, _, s2, s3⟩ := sort_rows rf2 (key_filter nd) (by omega)
  have e : ws = vs.filter big := sorted_one pw2 (pw.filter _) (pm2.trans (pm.filter big).symm)
  have c1 : C__law_due_0 [some (.d (.list (rowsP us)))] M = some (.d (.list (rowsP (us.filter big))), M) := by
    unfold C__law_due_0
    have len : ∀ l : List Tie, (rowsP l).length = l.length := fun l => by rw [rowsP, List.length_map]
    exact fLc_of (M1 := M) (xs := (rowsP us).map .d) rfl (sz (by rw [List.length_map, len]; omega)) (due_comp us none fun t ht => (hw t ht).1) (sz (by rw [len]; omega))
  have so : sort2F [.d (.list (rowsP (us.filter big)))] M = some (.d (.list (outP vs)), M) := by
    have len : (rowsP (us.filter big)).length = (us.filter big).length := by rw [rowsP, List.length_map]
    by_cases h2 : (us.filter big).length < 2
    · have : ws = us.filter big := s3 h2
      have e2 : rowsP (us.filter big) = outP vs := by unfold rowsP outP; rw [← e, this]
      rw [← e2]
      simp only [sort2F, sortSF, if_pos (show (rowsP (us.filter big)).length < 2 by rw [len]; exact h2)]
    · have ab := able rf2 (key_filter nd) (by omega) (by omega)
      have s4 := s2 (by omega)
      have s5 : sortedF [.d (.list (rowsP (us.filter big)))] M = some (.d (.list (outP vs)), M) := by
        show (rowsOf (rowsP (us.filter big))).bind _ = _
        rw [rowsOf_rows, Option.bind_some, if_pos ab, s4, e]
        rfl
      simp only [sort2F, sortSF, if_neg (show ¬ (rowsP (us.filter big)).length < 2 by rw [len]; omega), s5]
  have tf : tupleF [.d (.list (outP vs))] M = some (.d (.tuple (outP vs)), M) := rfl
  simp only [F__law_due, m__law_due, fnF, sRet, fCall, fCons, fNil, Option.bind_some, List.length_cons, List.length_nil, List.map_cons, List.map_nil, List.replicate_zero, List.append_nil, if_true, Nat.reduceAdd, Nat.reduceSub, c1, so, tf]
theorem web_comp {N : Sto} : ∀ (ws ts : List Tie) (s1 s2 s3 : Option CD), ((ts ++ ws).map Tie.key).Nodup → ts.length + ws.length < 1000 →
    dcF N.length (hTup 3 (hCons (hName 0) (hCons (hName 1) (hCons (hName 2) hNil)))) gYes (kTup (fCons (fVar 0) (fCons (fVar 1) fNil))) (fVar 2) ((rowsP ws).map .d) [s1, s2, s3] (N ++ [.dt (kvOf ts)]) = some (N ++ [.dt (kvOf (ts ++ ws))])
  | [], ts, _, _, _, _, _ => by rw [List.append_nil]; rfl
  | t :: ws, ts, s1, s2, s3, nd, hl => by
    have nk : ∀ s ∈ ts, s.key ≠ t.key := fun s hs q => by
      rw [List.map_append, List.nodup_append] at nd
      exact nd.2.2 _ (List.mem_map_of_mem hs) _ (by rw [List.map_cons]; exact List.mem_cons_self) q
    have ih := web_comp (N := N) ws (ts ++ [t]) (some (I t.i)) (some (I t.j)) (some t.val) (by rw [List.append_assoc]; exact nd) (by rw [List.length_append]; simp only [List.length_cons, List.length_nil] at hl ⊢; omega)
    have hD : (N ++ [.dt (kvOf ts)])[N.length]? = some (.dt (kvOf ts)) := by rw [List.getElem?_append_right (Nat.le_refl _), Nat.sub_self]; rfl
    have len : (kvOf ts).length < sizeLine := by unfold kvOf; rw [List.length_map, sizeLine_eq]; omega
    have st : setD (N ++ [.dt (kvOf ts)]) (.c N.length) (.inr t.key) t.val = some (N ++ [.dt (kvOf (ts ++ [t]))]) := by
      simp only [setD, hD, if_pos len, put_new nk]
      rw [List.set_append_right _ _ (Nat.le_refl _), Nat.sub_self]
      rfl
    have l2 : (Tie.key t).length ≤ sizeLine := sz (show 2 ≤ 1000 by decide)
    have kf : kTup (fCons (fVar 0) (fCons (fVar 1) fNil)) [some (I t.i), some (I t.j), some t.val] (N ++ [.dt (kvOf ts)]) = some (.inr t.key, N ++ [.dt (kvOf ts)]) := by
      have kk : keysOf [I t.i, I t.j] = some t.key := rfl
      simp only [kTup, fCons, fNil, fVar, Option.bind_some, List.getElem?_cons_zero, List.getElem?_cons_succ, kk, if_pos l2]
    show dcF _ _ _ _ _ (.d (.tuple (f2 t)) :: (rowsP ws).map .d) [s1, s2, s3] _ = _
    unfold dcF
    rw [show hTup 3 (hCons (hName 0) (hCons (hName 1) (hCons (hName 2) hNil))) (.d (.tuple (f2 t))) [s1, s2, s3] (N ++ [.dt (kvOf ts)]) = some ([some (I t.i), some (I t.j), some t.val], N ++ [.dt (kvOf ts)]) from rfl, Option.bind_some]
    dsimp only
    rw [show gYes [some (I t.i), some (I t.j), some t.val] (N ++ [.dt (kvOf ts)]) = some (true, N ++ [.dt (kvOf ts)]) from rfl, Option.bind_some]
    dsimp only
    rw [if_pos rfl, kf, Option.bind_some]
    dsimp only
    rw [show fVar 2 [some (I t.i), some (I t.j), some t.val] (N ++ [.dt (kvOf ts)]) = some (t.val, N ++ [.dt (kvOf ts)]) from rfl, Option.bind_some]
    dsimp only
    rw [st, Option.bind_some, ih, List.append_assoc]
    rfl
end Q4

end

section
set_option Elab.async false
set_option linter.all false
set_option maxRecDepth 100000
set_option maxHeartbeats 2000000
namespace Q4
open PySem PySem.Spec PyProof.Rows L2
def webO (w : Nat) (n : Int) (vs : List Tie) : Cell := .obj "Web" [("many", I n), ("ties", .d (.tuple (outP vs))), ("weights", .c (w + 2))]
def webC (w : Nat) (n : Int) (us vs : List Tie) : List Cell := [webO w n vs, .dt (kvOf us), .dt (kvOf (vs.filter big))]
theorem obj_at {M L : Sto} {fs : List (Str × CD)} : objOf "Web" (M ++ (.obj "Web" fs :: L)) (.c M.length) = some (M.length, fs) := by
  have : (M ++ (Cell.obj "Web" fs :: L))[M.length]? = some (.obj "Web" fs) := by rw [List.getElem?_append_right (Nat.le_refl _), Nat.sub_self]; rfl
  simp only [objOf, this, if_true]
theorem set_at {M L : Sto} {c c' : Cell} : (M ++ (c :: L)).set M.length c' = M ++ (c' :: L) := by
  rw [List.set_append_right _ _ (Nat.le_refl _), Nat.sub_self]; rfl
theorem e_init {M : Sto} {n : Int} {x : CD} {d : PyData} {ds : List PyData} {us : List Tie} (h : Rds M x d) (hd : itemsD d = some ds) (hu : ∀ (L : Sto) zs, zs.length = ds.length → (∀ (j : Nat) e, ds[j]? = some e → ∃ y, zs[j]? = some y ∧ Rds (M ++ L) y e) → Paired (TieC (M ++ L) n) zs us) (nd : (us.map Tie.key).Nodup) (h64 : us.length < 64) (n1 : 1 ≤ n) (n40 : n ≤ 40) :
    ∃ vs : List Tie, vs.Perm us ∧ vs.Pairwise Tie.lt ∧ F_Web__init [.c M.length, I n, x] (M ++ [.obj "Web" []]) = some (.d .none, M ++ webC M.length n us vs) := by
  obtain ⟨vs, pm, pw, k1⟩ := e_kept (h.app (L := [.obj "Web" [("many", I n)]])) hd (hu _) nd h64
  refine ⟨vs, pm, pw, ?_⟩
  have w1 : F_is_whole [I n] (M ++ [.obj "Web" []]) = some (B true, M ++ [.obj "Web" []]) := e_whole_int
  have c1 : decide (n < 1) = false := decide_eq_false (by omega)
  have c2 : decide (n > 40) = false := decide_eq_false (by omega)
  have o1 : objOf "Web" (M ++ [.obj "Web" []]) (.c M.length) = some (M.length, []) := obj_at
  have s1 : (M ++ [Cell.obj "Web" []]).set M.length (.obj "Web" (putC "many" (I n) [])) = M ++ [.obj "Web" [("many", I n)]] := set_at
  have k1 : F_kept_ties [I n, x] (M ++ [.obj "Web" [("many", I n)]]) = some (.d (.tuple (outP vs)), M ++ [.obj "Web" [("many", I n)], .dt (kvOf us)]) := by
    rw [k1, List.append_assoc]; rfl
  have o2 : objOf "Web" (M ++ [.obj "Web" [("many", I n)], .dt (kvOf us)]) (.c M.length) = some (M.length, ([("many", I n)] : List (Str × CD))) := obj_at
  have p2 : putC "ties" (.d (.tuple (outP vs))) ([("many", I n)] : List (Str × CD)) = ([("many", I n), ("ties", .d (.tuple (outP vs)))] : List (Str × CD)) := rfl
  have s2 : (M ++ [Cell.obj "Web" [("many", I n)], .dt (kvOf us)]).set M.length (.obj "Web" [("many", I n), ("ties", .d (.tuple (outP vs)))]) = M ++ [.obj "Web" [("many", I n), ("ties", .d (.tuple (outP vs)))], .dt (kvOf us)] := set_at
  have o3 : ∀ L, objOf "Web" (M ++ (.obj "Web" [("many", I n), ("ties", .d (.tuple (outP vs)))] :: L)) (.c M.length) = some (M.length, ([("many", I n), ("ties", .d (.tuple (outP vs)))] : List (Str × CD))) := fun L => obj_at
  have lk : List.lookup ("ties" : Str) [("many", I n), ("ties", .d (.tuple (outP vs)))] = some (.d (.tuple (outP vs))) := rfl
  have it : fItems (fFld "Web" "ties" (fVar 0)) [some (.c M.length), some (I n), some x] (M ++ [.obj "Web" [("many", I n), ("ties", .d (.tuple (outP vs)))], .dt (kvOf us)]) = some ((rowsP (vs.filter big)).map .d, M ++ [.obj "Web" [("many", I n), ("ties", .d (.tuple (outP vs)))], .dt (kvOf us)]) := by
    have : fFld "Web" "ties" (fVar 0) [some (.c M.length), some (I n), some x] (M ++ [.obj "Web" [("many", I n), ("ties", .d (.tuple (outP vs)))], .dt (kvOf us)]) = some (.d (.tuple (outP vs)), M ++ [.obj "Web" [("many", I n), ("ties", .d (.tuple (outP vs)))], .dt (kvOf us)]) := by
      simp only [fFld, fVar, Option.bind_some, List.getElem?_cons_zero, o3, lk]
    unfold fItems
    rw [this]
    rfl
  have fl : (vs.filter big).length ≤ vs.length := List.length_filter_le ..
  have lv : vs.length < 64 := by rw [pm.length_eq]; exact h64
  have nv : (vs.map Tie.key).Nodup := (pm.map Tie.key).nodup_iff.mpr nd
  have ln : (M ++ [Cell.obj "Web" [("many", I n), ("ties", .d (.tuple (outP vs)))], .dt (kvOf us)]).length = M.length + 2 := by rw [List.length_append]; rfl
  have wc := web_comp (N := M ++ [.obj "Web" [("many", I n), ("ties", .d (.tuple (outP vs)))], .dt (kvOf us)]) (vs.filter big) [] none none none (by rw [List.nil_append]; exact key_filter nv) (by simp only [List.length_nil]; omega)
  rw [List.nil_append] at wc
  have dc : C_Web__init_0 [some (.c M.length), some (I n), some x] (M ++ [.obj "Web" [("many", I n), ("ties", .d (.tuple (outP vs)))], .dt (kvOf us)]) = some (.c (M.length + 2), M ++ [.obj "Web" [("many", I n), ("ties", .d (.tuple (outP vs)))], .dt (kvOf us), .dt (kvOf (vs.filter big))]) := by
    unfold C_Web__init_0 fDc
    rw [it, Option.bind_some]
    dsimp only
    rw [show capG [none, none, none] [some (CD.c M.length), some (I n), some x] = [none, none, none] from rfl, show (M ++ [Cell.obj "Web" [("many", I n), ("ties", CD.d (.tuple (outP vs)))], .dt (kvOf us)] ++ [Cell.dt []]) = M ++ [Cell.obj "Web" [("many", I n), ("ties", CD.d (.tuple (outP vs)))], .dt (kvOf us)] ++ [Cell.dt (kvOf [])] from rfl, wc, Option.bind_some, ln, List.append_assoc]
    rfl
  have p3 : putC "weights" (.c (M.length + 2)) ([("many", I n), ("ties", .d (.tuple (outP vs)))] : List (Str × CD)) = ([("many", I n), ("ties", .d (.tuple (outP vs))), ("weights", .c (M.length + 2))] : List (Str × CD)) := rfl
  have s3 : (M ++ [Cell.obj "Web" [("many", I n), ("ties", .d (.tuple (outP vs)))], .dt (kvOf us), .dt (kvOf (vs.filter big))]).set M.length (.obj "Web" [("many", I n), ("ties", .d (.tuple (outP vs))), ("weights", .c (M.length + 2))]) = M ++ webC M.length n us vs := set_at
  have q0 : ([] : List (Str × CD)).length < 1000 := by decide
  have q1 : ([("many", I n)] : List (Str × CD)).length < 1000 := by show 1 < 1000; decide
  have q2 : ([("many", I n), ("ties", .d (.tuple (outP vs)))] : List (Str × CD)).length < 1000 := by show 2 < 1000; decide
  simp only [F_Web__init, m_Web__init, fnF, sSeq, sIf, sNext, gOr, gNot, gB, fCall, fCons, fNil, fVar, fC, fOp, asB, pI, ltI, gtI, Option.bind_some, List.getElem?_cons_zero, List.getElem?_cons_succ, List.length_cons, List.length_nil, List.map_cons, List.map_nil, List.replicate_zero, List.append_nil, if_true, ite_false, Nat.reduceAdd, Nat.reduceSub, Bool.not_true, Bool.false_eq_true, w1, c1, c2, sFldF, o1, s1, k1, o2, p2, s2, dc, o3, p3, s3, if_true, show (0:Nat) < 1000 from by decide, show (0 + 1:Nat) < 1000 from by decide, show (2:Nat) < 1000 from by decide]
end Q4

end

section
set_option Elab.async false
set_option linter.all false
set_option maxRecDepth 100000
set_option maxHeartbeats 2000000
namespace Q4
open PySem PySem.Spec PyProof.Rows L2
theorem e_web {M : Sto} {n : Int} {x : CD} {d : PyData} {ds : List PyData} {us : List Tie} {γ : Ga} {fa : AF} (hf : fa γ M = some ([I n, x], M)) (h : Rds M x d) (hd : itemsD d = some ds) (hu : ∀ (L : Sto) zs, zs.length = ds.length → (∀ (j : Nat) e, ds[j]? = some e → ∃ y, zs[j]? = some y ∧ Rds (M ++ L) y e) → Paired (TieC (M ++ L) n) zs us) (nd : (us.map Tie.key).Nodup) (h64 : us.length < 64) (n1 : 1 ≤ n) (n40 : n ≤ 40) :
    ∃ vs : List Tie, vs.Perm us ∧ vs.Pairwise Tie.lt ∧ fMake "Web" F_Web__init fa γ M = some (.c M.length, M ++ webC M.length n us vs) := by
  obtain ⟨vs, pm, pw, e⟩ := e_init h hd hu nd h64 n1 n40
  refine ⟨vs, pm, pw, ?_⟩
  unfold fMake
  rw [hf, Option.bind_some]
  dsimp only
  rw [e, Option.bind_some]
  rfl
def HasWeb (M : Sto) (w : Nat) (n : Int) (vs : List Tie) : Prop := M[w]? = some (webO w n vs) ∧ M[w + 2]? = some (.dt (kvOf (vs.filter big)))
theorem hasWeb_new {M L : Sto} {n : Int} {us vs : List Tie} : HasWeb (M ++ webC M.length n us vs ++ L) M.length n vs := by
  constructor
  · rw [List.append_assoc, List.getElem?_append_right (Nat.le_refl _), Nat.sub_self]; rfl
  · rw [List.append_assoc, List.getElem?_append_right (Nat.le_add_right _ _), Nat.add_sub_cancel_left]; rfl
theorem HasWeb.up {M : Sto} {w : Nat} {n : Int} {vs : List Tie} {L : Sto} (h : HasWeb M w n vs) : HasWeb (M ++ L) w n vs := by
  have a1 : w < M.length := (List.getElem?_eq_some_iff.mp h.1).1
  have a2 : w + 2 < M.length := (List.getElem?_eq_some_iff.mp h.2).1
  constructor
  · rw [List.getElem?_append_left a1]; exact h.1
  · rw [List.getElem?_append_left a2]; exact h.2
def tv (ts : List Tie) (i j : Int) : CD := (lkC (kvOf ts) [.inl i, .inl j]).getD (.d (.tuple [.int 0, .int 1]))
theorem e_dget {M : Sto} {w : Nat} {ts : List Tie} {γ : Ga} {fo fx fa : EF} {fb : EF} {i j : Int} (h : M[w]? = some (.dt (kvOf ts))) (ho : fo γ M = some (.c w, M)) (ha : fa γ M = some (I i, M)) (hb : fb γ M = some (I j, M)) (hx : fx γ M = some (.d (.tuple [.int 0, .int 1]), M)) :
    fDGet2 fo (kTup (fCons fa (fCons fb fNil))) fx γ M = some (tv ts i j, M) := by
  have k1 : kTup (fCons fa (fCons fb fNil)) γ M = some (.inr [.inl i, .inl j], M) := by
    unfold kTup
    simp only [fCons, fNil, ha, hb, Option.bind_some]
    rfl
  have d1 : isDc M (.c w) = true := by simp only [isDc, h]
  have a1 : atD M (.c w) (.inr [.inl i, .inl j]) = some (lkC (kvOf ts) [.inl i, .inl j]) := by simp only [atD, h]
  unfold fDGet2
  simp only [ho, Option.bind_some, d1, if_true, k1, hx, a1]
  rfl
theorem e_tie {M : Sto} {w : Nat} {n : Int} {vs : List Tie} {a b : Int} (h : HasWeb M w n vs) : F_Web__tie [.c w, I a, I b] M = some (tv (vs.filter big) (if b < a then b else a) (if b > a then b else a), M) := by
  have o1 : objOf "Web" M (.c w) = some (w, ([("many", I n), ("ties", .d (.tuple (outP vs))), ("weights", .c (w + 2))] : List (Str × CD))) := by
    simp only [objOf, h.1, webO, if_true]
  have f1 : fFld "Web" "weights" (fVar 0) [some (.c w), some (I a), some (I b)] M = some (.c (w + 2), M) := by
    have lk : List.lookup ("weights" : Str) [("many", I n), ("ties", .d (.tuple (outP vs))), ("weights", .c (w + 2))] = some (.c (w + 2)) := rfl
    simp only [fFld, fVar, Option.bind_some, List.getElem?_cons_zero, o1, lk]
  have g := e_dget (γ := [some (.c w), some (I a), some (I b)]) (fa := fCall min2F (fCons (fVar 1) (fCons (fVar 2) fNil))) (fb := fCall max2F (fCons (fVar 1) (fCons (fVar 2) fNil))) (i := if b < a then b else a) (j := if b > a then b else a) h.2 f1 rfl rfl (eK_Web__tie_0 _ _)
  simp only [F_Web__tie, m_Web__tie, fnF, sRet, List.length_cons, List.length_nil, List.map_cons, List.map_nil, List.replicate_zero, List.append_nil, Nat.reduceAdd, Nat.reduceSub, if_true, g, Option.bind_some]
end Q4

end

section
set_option Elab.async false
set_option linter.all false
set_option maxRecDepth 100000
set_option maxHeartbeats 2000000
namespace Q4
open PySem PySem.Spec PyProof.Rows L2
theorem eqSS {s : Str} {M : Sto} : eqX true (.d (.str s)) (.d (.str s)) M = some (B false, M) := by
  have : eqS true (.d (.str s)) (.d (.str s)) M = some (B false, M) := by simp [eqS]
  unfold eqX orF2
  rw [this]
theorem for_inv {g : GF} {b : SF} {M : Sto} {Inv : Ga → Prop} : ∀ (xs : List CD), (∀ x ∈ xs, ∀ γ, Inv γ → ∃ γ', ((g x γ M).bind fun r => b r.1 r.2) = some (.nx γ', M) ∧ Inv γ') → ∀ γ, Inv γ → ∃ γ', forF g b xs γ M = some (.nx γ', M) ∧ Inv γ'
  | [], _, γ, h => ⟨γ, rfl, h⟩
  | x :: xs, st, γ, h => by
    obtain ⟨γ1, e1, h1⟩ := st x List.mem_cons_self γ h
    obtain ⟨γ2, e2, h2⟩ := for_inv xs (fun y hy => st y (List.mem_cons_of_mem _ hy)) γ1 h1
    refine ⟨γ2, ?_, h2⟩
    obtain ⟨r, hr, e1⟩ := bindE e1
    unfold forF
    rw [hr, Option.bind_some, e1, Option.bind_some]
    exact e2
theorem rng_mem {n : Nat} {x : CD} (h : x ∈ rngD 0 n) : ∃ i : Int, x = I i ∧ 0 ≤ i ∧ i < n := by
  unfold rngD at h
  obtain ⟨i, hi, rfl⟩ := List.mem_map.mp h
  refine ⟨0 + (i : Nat), rfl, by omega, ?_⟩
  have := List.mem_range.mp hi
  omega
def Sm (i : Int) : Prop := i.natAbs < 2 ^ 1900
theorem sm_of {i : Int} (h0 : 0 ≤ i) (h : i ≤ 1000000000000) : Sm i := by
  have : (1000000000001 : Nat) ≤ 2 ^ 1900 := by decide +kernel
  unfold Sm
  omega
def Sh (t : Tie) : Prop := Sm t.i ∧ Sm t.j ∧ Sm t.a ∧ Sm t.b
theorem oks_int {i : Int} (h : Sm i) : oks (.int i) = true := decide_eq_true h
theorem fit_pair {a b : Int} (ha : Sm a) (hb : Sm b) : Fit 4007 1 (.tuple [.int a, .int b]) := by
  refine ⟨?_, ?_, ?_⟩
  · simp only [oks, oksAll, Bool.and_true, Bool.and_eq_true]; exact ⟨oks_int ha, oks_int hb⟩
  · simp only [wt, wtAll]; decide
  · simp only [PyData.depth, PyData.depthAll]; decide
theorem oks_row {t : Tie} (h : Sh t) : oks (.tuple (f2 t)) = true := by
  simp only [f2, oks, oksAll, Bool.and_true, Bool.and_eq_true]
  exact ⟨oks_int h.1, oks_int h.2.1, oks_int h.2.2.1, oks_int h.2.2.2⟩
theorem rows_fit : ∀ {ts : List Tie}, (∀ t ∈ ts, Sh t) → oksAll (rowsP ts) = true ∧ wtAll (rowsP ts) ≤ 8100 * ts.length ∧ PyData.depthAll (rowsP ts) ≤ 2
  | [], _ => ⟨rfl, Nat.le_refl _, by show PyData.depthAll [] ≤ 2; simp only [PyData.depthAll]; decide⟩
  | t :: ts, h => by
    obtain ⟨h1, h2, h3⟩ := rows_fit (ts := ts) fun s hs => h s (List.mem_cons_of_mem _ hs)
    have e : rowsP (t :: ts) = .tuple (f2 t) :: rowsP ts := rfl
    have w : wt (.tuple (f2 t)) ≤ 8050 := by simp only [f2, wt, wtAll]; decide
    have d : PyData.depth (.tuple (f2 t)) ≤ 2 := by simp only [f2, PyData.depth, PyData.depthAll]; decide
    rw [e]
    refine ⟨?_, ?_, ?_⟩
    · simp only [oksAll, h1, oks_row (h t List.mem_cons_self), Bool.and_true]
    · simp only [wtAll, List.length_cons]; omega
    · simp only [PyData.depthAll]; omega
theorem fit_web {n : Int} {ts : List Tie} (hn : Sm n) (h : ∀ t ∈ ts, Sh t) (h64 : ts.length < 64) : Fit 600000 4 (.tuple [.int n, .tuple (rowsP ts)]) := by
  obtain ⟨h1, h2, h3⟩ := rows_fit h
  refine ⟨?_, ?_, ?_⟩
  · simp only [oks, oksAll, h1, Bool.and_true]; exact oks_int hn
  · simp only [wt, wtAll]; omega
  · simp only [PyData.depth, PyData.depthAll]; omega
theorem tv_ok {ts : List Tie} {i j : Int} (h : ∀ t ∈ ts, Sh t) : ∃ a b, tv ts i j = .d (.tuple [.int a, .int b]) ∧ Sm a ∧ Sm b := by
  unfold tv lkC
  cases e : (kvOf ts).find? fun kv => decide (kv.1 = [.inl i, .inl j]) with
  | none => exact ⟨0, 1, rfl, sm_of (by decide) (by decide), sm_of (by decide) (by decide)⟩
  | some p =>
    have hp := List.mem_of_find?_eq_some e
    obtain ⟨t, ht, rfl⟩ := List.mem_map.mp hp
    exact ⟨t.a, t.b, rfl, (h t ht).2.2⟩
theorem repr_tv {ts : List Tie} {i j : Int} (h : ∀ t ∈ ts, Sh t) : ∃ s, ∀ M, reprC [tv ts i j] M = some (.d (.str s), M) := by
  obtain ⟨a, b, e, ha, hb⟩ := tv_ok (i := i) (j := j) h
  refine ⟨PyData.shown (.tuple [.int a, .int b]), fun M => ?_⟩
  rw [e, reprC_d]
  exact reprF_of (fit_pair ha hb) (by rw [sizeLine_eq]; decide)
theorem pairs_of {M : Sto} : ∀ (ws : List Tie) (s1 s2 s3 : Option CD), pairsF (hTup 3 (hCons (hName 0) (hCons (hName 1) (hCons (hName 2) hNil)))) gYes (kTup (fCons (fVar 0) (fCons (fVar 1) fNil))) (fVar 2) ((rowsP ws).map .d) [s1, s2, s3] M = some (ws.map fun t => (.inr t.key, t.val), M)
  | [], _, _, _ => rfl
  | t :: ws, s1, s2, s3 => by
    have ih := pairs_of (M := M) ws (some (I t.i)) (some (I t.j)) (some t.val)
    have l2 : (Tie.key t).length ≤ sizeLine := sz (show 2 ≤ 1000 by decide)
    have kf : kTup (fCons (fVar 0) (fCons (fVar 1) fNil)) [some (I t.i), some (I t.j), some t.val] M = some (.inr t.key, M) := by
      have kk : keysOf [I t.i, I t.j] = some t.key := rfl
      simp only [kTup, fCons, fNil, fVar, Option.bind_some, List.getElem?_cons_zero, List.getElem?_cons_succ, kk, if_pos l2]
    show pairsF _ _ _ _ (.d (.tuple (f2 t)) :: (rowsP ws).map .d) [s1, s2, s3] _ = _
    unfold pairsF
    rw [show hTup 3 (hCons (hName 0) (hCons (hName 1) (hCons (hName 2) hNil))) (.d (.tuple (f2 t))) [s1, s2, s3] M = some ([some (I t.i), some (I t.j), some t.val], M) from rfl, Option.bind_some]
    dsimp only
    rw [show gYes [some (I t.i), some (I t.j), some t.val] M = some (true, M) from rfl, Option.bind_some]
    dsimp only
    rw [if_pos rfl, kf, Option.bind_some]
    dsimp only
    rw [show fVar 2 [some (I t.i), some (I t.j), some t.val] M = some (t.val, M) from rfl, Option.bind_some]
    dsimp only
    rw [ih, Option.bind_some]
    rfl
theorem puts_of {N : Sto} : ∀ (ws ts : List Tie), ((ts ++ ws).map Tie.key).Nodup → ts.length + ws.length < 1000 →
    putPs N.length (ws.map fun t => (.inr t.key, t.val)) (N ++ [.dt (kvOf ts)]) = some (N ++ [.dt (kvOf (ts ++ ws))])
  | [], ts, _, _ => by rw [List.append_nil]; rfl
  | t :: ws, ts, nd, hl => by
    have nk : ∀ s ∈ ts, s.key ≠ t.key := fun s hs q => by
      rw [List.map_append, List.nodup_append] at nd
      exact nd.2.2 _ (List.mem_map_of_mem hs) _ (by rw [List.map_cons]; exact List.mem_cons_self) q
    have ih := puts_of (N := N) ws (ts ++ [t]) (by rw [List.append_assoc]; exact nd) (by rw [List.length_append]; simp only [List.length_cons, List.length_nil] at hl ⊢; omega)
    have hD : (N ++ [.dt (kvOf ts)])[N.length]? = some (.dt (kvOf ts)) := by rw [List.getElem?_append_right (Nat.le_refl _), Nat.sub_self]; rfl
    have len : (kvOf ts).length < sizeLine := by unfold kvOf; rw [List.length_map, sizeLine_eq]; omega
    have st : setD (N ++ [.dt (kvOf ts)]) (.c N.length) (.inr t.key) t.val = some (N ++ [.dt (kvOf (ts ++ [t]))]) := by
      simp only [setD, hD, if_pos len, put_new nk]
      rw [List.set_append_right _ _ (Nat.le_refl _), Nat.sub_self]
      rfl
    show putPs _ ((.inr t.key, t.val) :: ws.map fun t => (.inr t.key, t.val)) _ = _
    unfold putPs
    rw [st, Option.bind_some, ih, List.append_assoc]
    rfl
theorem e_dict {M : Sto} {ts : List Tie} {γ : Ga} (h3 : γ[3]? = some (some (.d (.tuple (rowsP ts))))) (nd : (ts.map Tie.key).Nodup) (hl : ts.length < 64) : C__law_holds_0 γ M = some (.c M.length, M ++ [.dt (kvOf ts)]) := by
  have it : fItems (fVar 3) γ M = some ((rowsP ts).map .d, M) := by
    unfold fItems fVar
    rw [h3]
    rfl
  have l1 : ((rowsP ts).map CD.d).length ≤ sizeLine := by rw [List.length_map]; unfold rowsP; rw [List.length_map, sizeLine_eq]; omega
  have c1 : capG [none, none, none] γ = [none, none, none] := rfl
  unfold C__law_holds_0 fDL
  rw [it, Option.bind_some]
  dsimp only
  rw [if_pos l1, c1, pairs_of, Option.bind_some]
  dsimp only
  rw [show M ++ [Cell.dt []] = M ++ [.dt (kvOf [])] from rfl, puts_of ts [] (by rw [List.nil_append]; exact nd) (by simp only [List.length_nil]; omega), Option.bind_some]
  rfl
end Q4

end

section
set_option Elab.async false
set_option linter.all false
set_option maxRecDepth 100000
set_option maxHeartbeats 2000000
namespace Q4
open PySem PySem.Spec PyProof.Rows L2
section
variable {M : Sto} {w D : Nat} {n : Int} {vs : List Tie} {r3 r4 : CD}
theorem e_meth {γ : Ga} {fo fa fb : EF} {a b : Int} (h : HasWeb M w n vs) (ho : fo γ M = some (.c w, M)) (ha : fa γ M = some (I a, M)) (hb : fb γ M = some (I b, M)) : fMethO "Web" "tie" F_Web__tie fo (fCons fa (fCons fb fNil)) γ M = some (tv (vs.filter big) (if b < a then b else a) (if b > a then b else a), M) := by
  have o1 : objOf "Web" M (.c w) = some (w, ([("many", I n), ("ties", .d (.tuple (outP vs))), ("weights", .c (w + 2))] : List (Str × CD))) := by
    simp only [objOf, h.1, webO, if_true]
  have lk : List.lookup ("tie" : Str) [("many", I n), ("ties", .d (.tuple (outP vs))), ("weights", .c (w + 2))] = none := rfl
  unfold fMethO
  simp only [ho, Option.bind_some, o1, lk, if_true, fCons, fNil, ha, hb]
  exact e_tie h
theorem turn (h : HasWeb M w n vs) (hD : M[D]? = some (.dt (kvOf (vs.filter big)))) (hs : ∀ t ∈ vs.filter big, Sh t) {i j : Int} (ij : i < j) (g7 : Option CD) :
    ∃ g, L__law_holds_0 [some (.c w), some (I n), some r3, some r4, some (.c D), some (I j), some (I i), g7] M = some (.nx [some (.c w), some (I n), some r3, some r4, some (.c D), some (I j), some (I i), g], M) := by
  obtain ⟨s, es⟩ := repr_tv (i := i) (j := j) hs
  have a1 : fDGet2 (fVar 4) (kTup (fCons (fVar 6) (fCons (fVar 5) fNil))) K__law_holds_0 [some (.c w), some (I n), some r3, some r4, some (.c D), some (I j), some (I i), g7] M = some (tv (vs.filter big) i j, M) := e_dget hD rfl rfl rfl (eK__law_holds_0 _ _)
  have m1 : ∀ g, fMethO "Web" "tie" F_Web__tie (fVar 0) (fCons (fVar 6) (fCons (fVar 5) fNil)) [some (.c w), some (I n), some r3, some r4, some (.c D), some (I j), some (I i), g] M = some (tv (vs.filter big) i j, M) := fun g => by
    rw [e_meth h rfl rfl rfl (a := i) (b := j), if_neg (show ¬ j < i by omega), if_pos (show j > i by omega)]
  have m2 : ∀ g, fMethO "Web" "tie" F_Web__tie (fVar 0) (fCons (fVar 5) (fCons (fVar 6) fNil)) [some (.c w), some (I n), some r3, some r4, some (.c D), some (I j), some (I i), g] M = some (tv (vs.filter big) i j, M) := fun g => by
    rw [e_meth h rfl rfl rfl (a := j) (b := i), if_pos (show i < j by omega), if_neg (show ¬ i > j by omega)]
  refine ⟨some (.d (.str s)), ?_⟩
  simp only [L__law_holds_0, sSeq, sIf, sRet, sNext, sAsg, hName, gOr, gB, fCall, fCons, fNil, fVar, fC, fOp, asB, Option.bind_some, List.getElem?_cons_zero, List.getElem?_cons_succ, List.set_cons_zero, List.set_cons_succ, ite_false, Bool.false_eq_true, a1, es, m1, m2, eqSS]
theorem loops (h : HasWeb M w n vs) (hD : M[D]? = some (.dt (kvOf (vs.filter big)))) (hs : ∀ t ∈ vs.filter big, Sh t) (n40 : n ≤ 40) :
    ∃ g5 g6 g7, forF (hName 5) L__law_holds_1 (rngD 0 n.toNat) [some (.c w), some (I n), some r3, some r4, some (.c D), none, none, none] M = some (.nx [some (.c w), some (I n), some r3, some r4, some (.c D), g5, g6, g7], M) := by
  obtain ⟨γ', e, g5, g6, g7, rfl⟩ := for_inv (g := hName 5) (b := L__law_holds_1) (M := M) (Inv := fun γ => ∃ g5 g6 g7, γ = [some (.c w), some (I n), some r3, some r4, some (.c D), g5, g6, g7]) (rngD 0 n.toNat) (by
    rintro x hx γ ⟨g5, g6, g7, rfl⟩
    obtain ⟨j, rfl, j0, jn⟩ := rng_mem hx
    have sm : small62 j = true := by
      simp only [small62, Bool.and_eq_true, decide_eq_true_eq]
      omega
    obtain ⟨γ', e, q6, q7, rfl⟩ := for_inv (g := hName 6) (b := L__law_holds_0) (M := M) (Inv := fun γ => ∃ g6 g7, γ = [some (.c w), some (I n), some r3, some r4, some (.c D), some (I j), g6, g7]) (rngD 0 j.toNat) (by
      rintro x hx γ ⟨g6, g7, rfl⟩
      obtain ⟨i, rfl, i0, ij⟩ := rng_mem hx
      obtain ⟨g, e⟩ := turn (r3 := r3) (r4 := r4) h hD hs (show i < j by omega) g7
      exact ⟨_, e, some (I i), g, rfl⟩) [some (.c w), some (I n), some r3, some r4, some (.c D), some (I j), g6, g7] ⟨g6, g7, rfl⟩
    refine ⟨_, ?_, some (I j), q6, q7, rfl⟩
    simp only [L__law_holds_1, sFor, fRng1, hName, fCons, fNil, fVar, Option.bind_some, List.getElem?_cons_zero, List.getElem?_cons_succ, List.set_cons_zero, List.set_cons_succ, if_true, sm, e]) [some (.c w), some (I n), some r3, some r4, some (.c D), none, none, none] ⟨none, none, none, rfl⟩
  exact ⟨g5, g6, g7, e⟩
theorem e_holds {us : List Tie} (h : HasWeb M w n vs) (ok : Ok n us) (pm : vs.Perm us) (pw : vs.Pairwise Tie.lt) (n1 : 1 ≤ n) (n40 : n ≤ 40) : F__law_holds [.c w, I n, .d (.list (rowsP us))] M = some (B true, M ++ [.dt (kvOf (vs.filter big))]) := by
  have du : F__law_due [.d (.list (rowsP us))] M = some (.d (.tuple (outP vs)), M) := e_due ok pm pw
  have hs : ∀ t ∈ vs.filter big, Sh t := fun t ht => by
    have ht := pm.subset (List.mem_filter.mp ht).1
    obtain ⟨a, b, c, d⟩ := ok.1 t ht
    obtain ⟨a1, a2, a3, a4⟩ := wgt_b a
    exact ⟨sm_of b (by omega), sm_of (by omega) (by omega), sm_of a1 a2, sm_of (by omega) (by omega)⟩
  have nd : ((vs.filter big).map Tie.key).Nodup := key_filter ((pm.map Tie.key).nodup_iff.mpr ok.2.1)
  have fl : (vs.filter big).length ≤ vs.length := List.length_filter_le ..
  have lv : vs.length < 64 := by rw [pm.length_eq]; exact ok.2.2
  have o1 : objOf "Web" M (.c w) = some (w, ([("many", I n), ("ties", .d (.tuple (outP vs))), ("weights", .c (w + 2))] : List (Str × CD))) := by
    simp only [objOf, h.1, webO, if_true]
  have lk1 : List.lookup ("many" : Str) [("many", I n), ("ties", .d (.tuple (outP vs))), ("weights", .c (w + 2))] = some (I n) := rfl
  have lk2 : List.lookup ("ties" : Str) [("many", I n), ("ties", .d (.tuple (outP vs))), ("weights", .c (w + 2))] = some (.d (.tuple (outP vs))) := rfl
  have rp : reprC [.d (.tuple [.int n, .tuple (outP vs)])] M = some (.d (.str (PyData.shown (.tuple [.int n, .tuple (outP vs)]))), M) := by
    rw [reprC_d]
    exact reprF_of (fit_web (sm_of (by omega) (by omega)) hs (by omega)) (by rw [sizeLine_eq]; decide)
  have dc := e_dict (M := M) (γ := [some (.c w), some (I n), some (.d (.list (rowsP us))), some (.d (.tuple (outP vs))), none, none, none, none]) (ts := vs.filter big) rfl nd (by omega)
  have hD : (M ++ [.dt (kvOf (vs.filter big))])[M.length]? = some (.dt (kvOf (vs.filter big))) := by rw [List.getElem?_append_right (Nat.le_refl _), Nat.sub_self]; rfl
  obtain ⟨g5, g6, g7, lp⟩ := loops (r3 := .d (.list (rowsP us))) (r4 := .d (.tuple (outP vs))) (h.up (L := [.dt (kvOf (vs.filter big))])) hD hs n40
  have sm : small62 n = true := by
    simp only [small62, Bool.and_eq_true, decide_eq_true_eq]
    omega
  have z2 : (2 : Nat) ≤ sizeLine := by rw [sizeLine_eq]; decide
  simp only [F__law_holds, m__law_holds, fnF, sSeq, sIf, sRet, sNext, sAsg, hName, gB, fCall, fCons, fNil, fVar, fC, fOp, asB, fTup, allD, Option.bind_some, Option.map_some, List.getElem?_cons_zero, List.getElem?_cons_succ, List.length_cons, List.length_nil, List.set_cons_zero, List.set_cons_succ, List.map_cons, List.map_nil, List.replicate_zero, List.replicate_succ, List.cons_append, List.nil_append, if_true, ite_false, Nat.reduceAdd, Nat.reduceSub, Bool.false_eq_true, z2, du, fFld, o1, lk1, lk2, rp, eqSS, dc, sFor, fRng1, sm, lp]
end
end Q4

end

section
set_option Elab.async false
set_option linter.all false
set_option maxRecDepth 100000
set_option maxHeartbeats 2000000
namespace Q4
open PySem PySem.Spec PyProof.Rows L2
def lay : Nat → List Tie → Sto
  | _, [] => []
  | b, t :: us => .lst [I t.a, I t.b] :: .lst [I t.i, I t.j, .c b] :: lay (b + 2) us
def rowsAt : Nat → List Tie → List CD
  | _, [] => []
  | b, _ :: us => .c (b + 1) :: rowsAt (b + 2) us
theorem lay_len : ∀ (b : Nat) (us : List Tie), (lay b us).length = 2 * us.length
  | _, [] => rfl
  | b, t :: us => by simp only [lay, List.length_cons, lay_len (b + 2) us]; omega
theorem rowsAt_len : ∀ (b : Nat) (us : List Tie), (rowsAt b us).length = us.length
  | _, [] => rfl
  | b, t :: us => by simp only [rowsAt, List.length_cons, rowsAt_len (b + 2) us]
theorem z_le {k : Nat} (h : k ≤ 1000) : k ≤ sizeLine := by rw [sizeLine_eq]; omega
theorem lists_int (n : Nat) (a : Int) (M : Sto) : F__law_lists (n + 1) [I a] M = some (I a, M) := by
  have s : snap 5 M (I a) = some (.int a) := snap_d
  have q : isiD "tuple" (.int a) = false := rfl
  simp only [F__law_lists, m__law_lists, fnF, sSeq, sIf, sRet, sNext, gB, fVar, asB, Option.bind_some, List.getElem?_cons_zero, List.length_cons, List.length_nil, List.map_cons, List.map_nil, List.replicate_zero, List.append_nil, if_true, ite_false, Nat.reduceAdd, Nat.reduceSub, Bool.false_eq_true, fIsiC, s, q]
theorem lists_pair (n : Nat) (a b : Int) (M : Sto) : F__law_lists (n + 2) [.d (.tuple [.int a, .int b])] M = some (.c M.length, M ++ [.lst [I a, I b]]) := by
  have s : snap 5 M (.d (.tuple [.int a, .int b])) = some (.tuple [.int a, .int b]) := snap_d
  have q : isiD "tuple" (.tuple [.int a, .int b]) = true := rfl
  have it : fItems (fVar 0) [some (.d (.tuple [.int a, .int b]))] M = some ([I a, I b], M) := rfl
  have z : (2 : Nat) ≤ sizeLine := z_le (by decide)
  have c : C__law_lists_0 (F__law_lists (n + 1)) [some (.d (.tuple [.int a, .int b]))] M = some (.c M.length, M ++ [.lst [I a, I b]]) := by
    simp only [C__law_lists_0, fLcN, fNew, lcRun, it, capG, lcF, gYes, hName, fCall, fCons, fNil, fVar, fNew, Option.bind_some, Option.bind_none, List.getElem?_cons_zero, List.length_cons, List.length_nil, List.set_cons_zero, List.map_cons, List.map_nil, if_true, Nat.reduceAdd, lists_int, z]
  unfold F__law_lists
  simp only [m__law_lists, fnF, sSeq, sIf, sRet, sNext, gB, fVar, asB, Option.bind_some, List.getElem?_cons_zero, List.length_cons, List.length_nil, List.map_cons, List.map_nil, List.replicate_zero, List.append_nil, if_true, Nat.reduceAdd, Nat.reduceSub, fIsiC, s, q, c]
theorem lists_row (n : Nat) (t : Tie) (M : Sto) : F__law_lists (n + 3) [.d (.tuple (f2 t))] M = some (.c (M.length + 1), M ++ [.lst [I t.a, I t.b], .lst [I t.i, I t.j, .c M.length]]) := by
  have s : snap 5 M (.d (.tuple (f2 t))) = some (.tuple (f2 t)) := snap_d
  have q : isiD "tuple" (.tuple (f2 t)) = true := rfl
  have it : fItems (fVar 0) [some (.d (.tuple (f2 t)))] M = some ([I t.i, I t.j, .d (.tuple [.int t.a, .int t.b])], M) := rfl
  have z : (3 : Nat) ≤ sizeLine := z_le (by decide)
  have c : C__law_lists_0 (F__law_lists (n + 2)) [some (.d (.tuple (f2 t)))] M = some (.c (M.length + 1), M ++ [.lst [I t.a, I t.b], .lst [I t.i, I t.j, .c M.length]]) := by
    simp only [C__law_lists_0, fLcN, fNew, lcRun, it, capG, lcF, gYes, hName, fCall, fCons, fNil, fVar, fNew, Option.bind_some, Option.bind_none, List.getElem?_cons_zero, List.length_cons, List.length_nil, List.set_cons_zero, List.map_cons, List.map_nil, if_true, Nat.reduceAdd, lists_int, lists_pair, z]
    rw [List.length_append, List.append_assoc]
    rfl
  unfold F__law_lists
  simp only [m__law_lists, fnF, sSeq, sIf, sRet, sNext, gB, fVar, asB, Option.bind_some, List.getElem?_cons_zero, List.length_cons, List.length_nil, List.map_cons, List.map_nil, List.replicate_zero, List.append_nil, if_true, Nat.reduceAdd, Nat.reduceSub, fIsiC, s, q, c]
theorem lists_rows (n : Nat) : ∀ (us : List Tie) (g : Option CD) (M : Sto), lcF (hName 0) gYes (fCall (F__law_lists (n + 3)) (fCons (fVar 0) fNil)) ((rowsP us).map .d) [g] M = some (rowsAt M.length us, M ++ lay M.length us)
  | [], g, M => by simp only [lay, List.append_nil]; rfl
  | t :: us, g, M => by
    have ih := lists_rows n us (some (.d (.tuple (f2 t)))) (M ++ [.lst [I t.a, I t.b], .lst [I t.i, I t.j, .c M.length]])
    have l : (M ++ [Cell.lst [I t.a, I t.b], .lst [I t.i, I t.j, .c M.length]]).length = M.length + 2 := by rw [List.length_append]; rfl
    rw [l] at ih
    show lcF _ _ _ (.d (.tuple (f2 t)) :: (rowsP us).map .d) [g] M = _
    unfold lcF
    simp only [gYes, hName, fCall, fCons, fNil, fVar, Option.bind_some, List.getElem?_cons_zero, List.set_cons_zero, if_true, lists_row, ih]
    rw [List.append_assoc]
    rfl
theorem e_lists (us : List Tie) (M : Sto) (h64 : us.length < 64) : F__law_lists 4 [.d (.tuple (rowsP us))] M = some (.c (M.length + 2 * us.length), M ++ (lay M.length us ++ [.lst (rowsAt M.length us)])) := by
  have s : snap 5 M (.d (.tuple (rowsP us))) = some (.tuple (rowsP us)) := snap_d
  have q : isiD "tuple" (.tuple (rowsP us)) = true := rfl
  have it : fItems (fVar 0) [some (.d (.tuple (rowsP us)))] M = some ((rowsP us).map .d, M) := rfl
  have z : ((rowsP us).map CD.d).length ≤ sizeLine := z_le (by rw [List.length_map]; unfold rowsP; rw [List.length_map]; omega)
  have c : C__law_lists_0 (F__law_lists 3) [some (.d (.tuple (rowsP us)))] M = some (.c (M.length + 2 * us.length), M ++ (lay M.length us ++ [.lst (rowsAt M.length us)])) := by
    unfold C__law_lists_0 fLcN fNew lcRun
    rw [it, Option.bind_some]
    dsimp only
    rw [if_pos z, show capG [none] [some (CD.d (.tuple (rowsP us)))] = [none] from rfl, lists_rows 0 us none M, Option.bind_some]
    dsimp only
    rw [if_pos (z_le (by rw [rowsAt_len]; omega)), List.length_append, lay_len, List.append_assoc]
  unfold F__law_lists
  simp only [m__law_lists, fnF, sSeq, sIf, sRet, sNext, gB, fVar, asB, Option.bind_some, List.getElem?_cons_zero, List.length_cons, List.length_nil, List.map_cons, List.map_nil, List.replicate_zero, List.append_nil, if_true, Nat.reduceAdd, Nat.reduceSub, fIsiC, s, q, c]
def lf2 (t : Tie) : PyData := .list [.int t.i, .int t.j, .list [.int t.a, .int t.b]]
theorem lay_at : ∀ (us : List Tie) (b : Nat) (M L : Sto), M.length = b → snaps 4 (M ++ (lay b us ++ L)) (rowsAt b us) = some (us.map lf2)
  | [], _, _, _, _ => by simp only [rowsAt, snaps, List.map_nil]
  | t :: us, b, M, L, h => by
    have ih := lay_at us (b + 2) (M ++ [.lst [I t.a, I t.b], .lst [I t.i, I t.j, .c b]]) L (by rw [List.length_append, h]; rfl)
    rw [List.append_assoc] at ih
    have ih : snaps 4 (M ++ (lay b (t :: us) ++ L)) (rowsAt (b + 2) us) = some (us.map lf2) := ih
    have a0 : (M ++ (lay b (t :: us) ++ L))[b]? = some (.lst [I t.a, I t.b]) := by rw [← h, List.getElem?_append_right (Nat.le_refl _), Nat.sub_self]; rfl
    have a1 : (M ++ (lay b (t :: us) ++ L))[b + 1]? = some (.lst [I t.i, I t.j, .c b]) := by rw [← h, List.getElem?_append_right (Nat.le_add_right _ _), Nat.add_sub_cancel_left]; rfl
    have e : snap 4 (M ++ (lay b (t :: us) ++ L)) (.c (b + 1)) = some (lf2 t) := by
      simp only [snap, snaps, a0, a1, Option.bind_some]
      rfl
    unfold rowsAt snaps
    rw [e, Option.bind_some, ih]
    rfl
theorem lists_rds (us : List Tie) (M L : Sto) : Rds (M ++ (lay M.length us ++ [.lst (rowsAt M.length us)]) ++ L) (.c (M.length + 2 * us.length)) (.list (us.map lf2)) := by
  have a0 : (M ++ (lay M.length us ++ [.lst (rowsAt M.length us)]) ++ L)[M.length + 2 * us.length]? = some (.lst (rowsAt M.length us)) := by
    rw [List.append_assoc, List.getElem?_append_right (Nat.le_add_right _ _), Nat.add_sub_cancel_left, List.append_assoc, List.getElem?_append_right (by rw [lay_len]; omega), lay_len, Nat.sub_self]
    rfl
  have e : snaps 4 (M ++ (lay M.length us ++ [.lst (rowsAt M.length us)]) ++ L) (rowsAt M.length us) = some (us.map lf2) := by
    have := lay_at us M.length M ([.lst (rowsAt M.length us)] ++ L) rfl
    rw [List.append_assoc, List.append_assoc]
    exact this
  unfold Rds snap
  rw [a0]
  dsimp only
  rw [e]
  rfl
end Q4

end

section
set_option Elab.async false
set_option linter.all false
set_option maxRecDepth 100000
set_option maxHeartbeats 2000000
namespace Q4
open PySem PySem.Spec PyProof.Rows L2
theorem forP_step {P : Sto → Prop} {g : GF} {b : SF} {x : CD} {xs : List CD} {γ γ' : Ga} {M M' : Sto} (h : P M) (e : ((g x γ M).bind fun r => b r.1 r.2) = some (.nx γ', M')) : forP P g b (x :: xs) γ M = forP P g b xs γ' M' := by
  obtain ⟨r, h1, h2⟩ := bindE e
  conv => lhs; unfold forP
  rw [if_pos h, h1, Option.bind_some, h2, Option.bind_some]
theorem forP_end {P : Sto → Prop} {g : GF} {b : SF} {γ : Ga} {M : Sto} (h : P M) : forP P g b [] γ M = some (.nx γ, M) := by
  unfold forP
  rw [if_pos h]
theorem turn_int {self : FN} {a : Int} {x : CD} {g : Option CD} {M : Sto} : ((hName 1 (I a) [some x, g] M).bind fun r => L__law_spoil_0 self r.1 r.2) = some (.nx [some x, some (I a)], M) := by
  have s : snap 5 M (I a) = some (.int a) := snap_d
  have q : isiD "list" (.int a) = false := rfl
  simp only [L__law_spoil_0, sIf, sNext, sDrop, hName, gB, fCall, fCons, fNil, fVar, asB, Option.bind_some, List.getElem?_cons_zero, List.getElem?_cons_succ, List.set_cons_zero, List.set_cons_succ, ite_false, Bool.false_eq_true, fIsiC, s, q]
theorem turn_list {self : FN} {k : Nat} {x : CD} {g : Option CD} {M M' : Sto} {ds : List PyData} (s : snap 5 M (.c k) = some (.list ds)) (e : self [.c k] M = some (.d .none, M')) : ((hName 1 (.c k) [some x, g] M).bind fun r => L__law_spoil_0 self r.1 r.2) = some (.nx [some x, some (.c k)], M') := by
  have q : isiD "list" (.list ds) = true := rfl
  simp only [L__law_spoil_0, sIf, sNext, sDrop, hName, gB, fCall, fCons, fNil, fVar, asB, Option.bind_some, List.getElem?_cons_zero, List.getElem?_cons_succ, List.set_cons_zero, List.set_cons_succ, if_true, fIsiC, s, q, e]
def Kp (S : Nat → Prop) (M M' : Sto) : Prop := M.length ≤ M'.length ∧ ∀ q, q < M.length → ¬ S q → M'[q]? = M[q]?
theorem spoil_end {self : FN} {k : Nat} {xs : List CD} {M M1 : Sto} {S : Nat → Prop} {g : Option CD} (hk : M[k]? = some (.lst xs)) (hx : xs.length ≤ 100) (nk : ¬ S k) (kp : Kp S (M ++ [.lst xs]) M1)
    (e : forP (fun M' => M'[M.length]? = some (.lst xs)) (hName 1) (L__law_spoil_0 self) xs [some (.c k), none] (M ++ [.lst xs]) = some (.nx [some (.c k), g], M1)) :
    ∃ M', fnF 1 2 (m__law_spoil self) [.c k] M = some (.d .none, M') ∧ Kp (fun q => S q ∨ q = k) M M' := by
  have lk : k < M.length := (List.getElem?_eq_some_iff.mp hk).1
  have l1 : (M ++ [Cell.lst xs]).length = M.length + 1 := by rw [List.length_append]; rfl
  have h1 : M1[k]? = some (.lst xs) := by rw [kp.2 k (by omega) nk, List.getElem?_append_left lk]; exact hk
  have h0 : (M ++ [Cell.lst xs])[M.length]? = some (.lst xs) := by rw [List.getElem?_append_right (Nat.le_refl _), Nat.sub_self]; rfl
  have ln : listN [.c k] M = some (.c M.length, M ++ [.lst xs]) := by simp only [listN, hk]
  have wk : walked (M ++ [.lst xs]) (.c M.length) = some (xs, fun M' => M'[M.length]? = some (.lst xs)) := by simp only [walked, h0]
  have fp : fItemsP (fCall listN (fCons (fVar 0) fNil)) [some (.c k), none] M = some ((xs, fun M' => M'[M.length]? = some (.lst xs)), M ++ [.lst xs]) := by
    simp only [fItemsP, fCall, fCons, fNil, fVar, Option.bind_some, List.getElem?_cons_zero, ln, wk]
  have ty : tyB "list" M1 (.c k) = true := by simp only [tyB, h1]; rfl
  have ap : appendF (.c k) [I 0] M1 = some (.d .none, M1.set k (.lst (xs ++ [I 0]))) := by
    simp only [appendF, h1]
    rw [if_pos (by rw [sizeLine_eq]; omega)]
  refine ⟨M1.set k (.lst (xs ++ [I 0])), ?_, ?_, ?_⟩
  · simp only [m__law_spoil, sForP, fnF, sSeq, sDrop, fCons, fNil, fVar, fC, Option.bind_some, List.getElem?_cons_zero, List.length_cons, List.length_nil, List.map_cons, List.map_nil, List.replicate_zero, List.replicate_succ, List.cons_append, List.nil_append, if_true, Nat.reduceAdd, Nat.reduceSub, fp, e, fMeth, ty, ap]
  · rw [List.length_set]; have := kp.1; omega
  · intro q hq nq
    rw [List.getElem?_set_ne (fun z => nq (.inr z.symm)), kp.2 q (by omega) (fun z => nq (.inl z)), List.getElem?_append_left hq]
theorem at_end {M : Sto} {c : Cell} : (M ++ [c])[M.length]? = some c := by rw [List.getElem?_append_right (Nat.le_refl _), Nat.sub_self]; rfl
theorem spoil_leaf (n : Nat) {k : Nat} {a b : Int} {M : Sto} (hk : M[k]? = some (.lst [I a, I b])) : ∃ M', F__law_spoil (n + 1) [.c k] M = some (.d .none, M') ∧ Kp (fun q => q = k) M M' := by
  obtain ⟨M', e, kp⟩ := spoil_end (self := F__law_spoil n) (S := fun _ => False) (g := some (I b)) (M1 := M ++ [.lst [I a, I b]]) hk (by show 2 ≤ 100; decide) (fun z => z) ⟨Nat.le_refl _, fun _ _ _ => rfl⟩ (by
    rw [forP_step at_end turn_int, forP_step at_end turn_int, forP_end at_end])
  exact ⟨M', e, kp.1, fun q h1 h2 => kp.2 q h1 (fun z => z.elim id h2)⟩
theorem spoil_row (n : Nat) {k : Nat} {t : Tie} {M : Sto} (hk : M[k]? = some (.lst [I t.a, I t.b])) (hr : M[k + 1]? = some (.lst [I t.i, I t.j, .c k])) : ∃ M', F__law_spoil (n + 2) [.c (k + 1)] M = some (.d .none, M') ∧ Kp (fun q => q = k ∨ q = k + 1) M M' := by
  have lk : k < M.length := (List.getElem?_eq_some_iff.mp hk).1
  have l1 : (M ++ [Cell.lst [I t.i, I t.j, .c k]]).length = M.length + 1 := by rw [List.length_append]; rfl
  have hk' : (M ++ [Cell.lst [I t.i, I t.j, .c k]])[k]? = some (.lst [I t.a, I t.b]) := by rw [List.getElem?_append_left lk]; exact hk
  obtain ⟨M1, e1, k1⟩ := spoil_leaf n hk'
  have s : snap 5 (M ++ [Cell.lst [I t.i, I t.j, .c k]]) (.c k) = some (.list [.int t.a, .int t.b]) := by
    simp only [snap, snaps, hk', Option.bind_some]
  obtain ⟨M', e, kp⟩ := spoil_end (self := F__law_spoil (n + 1)) (S := fun q => q = k) (g := some (.c k)) (M1 := M1) hr (by show 3 ≤ 100; decide) (by omega) k1 (by
    have pe : M1[M.length]? = some (.lst [I t.i, I t.j, .c k]) := by rw [k1.2 M.length (by omega) (by omega)]; exact at_end
    rw [forP_step at_end turn_int, forP_step at_end turn_int, forP_step at_end (turn_list s e1), forP_end pe])
  exact ⟨M', e, kp⟩
theorem spoil_rows (n : Nat) {x : CD} {E : Nat} {xs : List CD} : ∀ (us : List Tie) (b : Nat) (M : Sto) (g : Option CD), M[E]? = some (.lst xs) → b + 2 * us.length ≤ E →
    (∀ (L : Nat), L < 2 * us.length → M[b + L]? = (lay b us)[L]?) →
    ∃ g' M', forP (fun M' => M'[E]? = some (.lst xs)) (hName 1) (L__law_spoil_0 (F__law_spoil (n + 2))) (rowsAt b us) [some x, g] M = some (.nx [some x, g'], M') ∧ Kp (fun q => b ≤ q ∧ q < b + 2 * us.length) M M'
  | [], b, M, g, hE, _, _ => ⟨g, M, forP_end hE, Nat.le_refl _, fun _ _ _ => rfl⟩
  | t :: us, b, M, g, hE, hb, hl => by
    have lE : E < M.length := (List.getElem?_eq_some_iff.mp hE).1
    rw [List.length_cons] at hb
    have h0 : M[b]? = some (.lst [I t.a, I t.b]) := hl 0 (by rw [List.length_cons]; omega)
    have h1 : M[b + 1]? = some (.lst [I t.i, I t.j, .c b]) := hl 1 (by rw [List.length_cons]; omega)
    obtain ⟨M1, e1, k1⟩ := spoil_row n h0 h1
    have s : snap 5 M (.c (b + 1)) = some (.list [.int t.i, .int t.j, .list [.int t.a, .int t.b]]) := by
      simp only [snap, snaps, h0, h1, Option.bind_some]
    obtain ⟨g', M', e2, k2⟩ := spoil_rows n us (b + 2) M1 (some (.c (b + 1))) (by rw [k1.2 E lE (by omega)]; exact hE) (by omega) (fun L hL => by
      rw [k1.2 (b + 2 + L) (by omega) (by omega), show b + 2 + L = b + (L + 2) by omega, hl (L + 2) (by rw [List.length_cons]; omega)]
      rfl)
    refine ⟨g', M', ?_, Nat.le_trans k1.1 k2.1, fun q hq nq => ?_⟩
    · unfold rowsAt
      rw [forP_step hE (turn_list s e1)]
      exact e2
    · rw [List.length_cons] at nq
      rw [k2.2 q (Nat.lt_of_lt_of_le hq k1.1) (by omega), k1.2 q hq (by omega)]
theorem e_spoil {us : List Tie} {b : Nat} {M : Sto} (h64 : us.length < 64) (hr : M[b + 2 * us.length]? = some (.lst (rowsAt b us))) (hl : ∀ (L : Nat), L < 2 * us.length → M[b + L]? = (lay b us)[L]?) :
    ∃ M', F__law_spoil 4 [.c (b + 2 * us.length)] M = some (.d .none, M') ∧ Kp (fun q => b ≤ q ∧ q ≤ b + 2 * us.length) M M' := by
  have lk : b + 2 * us.length < M.length := (List.getElem?_eq_some_iff.mp hr).1
  have l1 : (M ++ [Cell.lst (rowsAt b us)]).length = M.length + 1 := by rw [List.length_append]; rfl
  obtain ⟨g', M1, e1, k1⟩ := spoil_rows 1 (x := .c (b + 2 * us.length)) (E := M.length) (xs := rowsAt b us) us b (M ++ [.lst (rowsAt b us)]) none at_end (by omega) (fun L hL => by
    rw [List.getElem?_append_left (by omega)]; exact hl L hL)
  obtain ⟨M', e, kp⟩ := spoil_end (self := F__law_spoil 3) hr (by rw [rowsAt_len]; omega) (by omega) k1 e1
  exact ⟨M', e, kp.1, fun q h1 h2 => kp.2 q h1 (by omega)⟩
end Q4

end

section
set_option Elab.async false
set_option linter.all false
set_option maxRecDepth 100000
set_option maxHeartbeats 2000000
namespace Q4
open PySem PySem.Spec PyProof.Rows L2
theorem hu_of {N : Sto} {n : Int} {f : Tie → PyData} : ∀ (us : List Tie) (zs : List CD), (∀ t ∈ us, TieD n (f t) t.i t.j t.a t.b) → zs.length = (us.map f).length → (∀ (j : Nat) e, (us.map f)[j]? = some e → ∃ y, zs[j]? = some y ∧ Rds N y e) → Paired (TieC N n) zs us
  | [], zs, _, hl, _ => by
    cases zs with
    | nil => exact .nil
    | cons z zs => cases hl
  | t :: us, zs, ht, hl, ha => by
    cases zs with
    | nil => cases hl
    | cons z zs =>
      refine .cons ?_ (hu_of us zs (fun s hs => ht s (List.mem_cons_of_mem _ hs)) (Nat.succ.inj hl) fun j e q => ha (j + 1) e q)
      obtain ⟨y, h1, h2⟩ := ha 0 (f t) rfl
      cases h1
      exact ⟨f t, h2, ht t List.mem_cons_self⟩
theorem oks_lf {t : Tie} (h : Sh t) : oks (lf2 t) = true := by
  simp only [lf2, oks, oksAll, Bool.and_true, Bool.and_eq_true]
  exact ⟨oks_int h.1, oks_int h.2.1, oks_int h.2.2.1, oks_int h.2.2.2⟩
theorem lf_fit : ∀ {ts : List Tie}, (∀ t ∈ ts, Sh t) → oksAll (ts.map lf2) = true ∧ wtAll (ts.map lf2) ≤ 8100 * ts.length ∧ PyData.depthAll (ts.map lf2) ≤ 2
  | [], _ => ⟨rfl, Nat.le_refl _, by show PyData.depthAll [] ≤ 2; simp only [PyData.depthAll]; decide⟩
  | t :: ts, h => by
    obtain ⟨h1, h2, h3⟩ := lf_fit (ts := ts) fun s hs => h s (List.mem_cons_of_mem _ hs)
    have w : wt (lf2 t) ≤ 8050 := by simp only [lf2, wt, wtAll]; decide
    have d : PyData.depth (lf2 t) ≤ 2 := by simp only [lf2, PyData.depth, PyData.depthAll]; decide
    rw [List.map_cons]
    refine ⟨?_, ?_, ?_⟩
    · simp only [oksAll, h1, oks_lf (h t List.mem_cons_self), Bool.and_true]
    · simp only [wtAll, List.length_cons]; omega
    · simp only [PyData.depthAll]; omega
theorem fit_lf {ts : List Tie} (h : ∀ t ∈ ts, Sh t) (h64 : ts.length < 64) : Fit 600000 4 (.list (ts.map lf2)) := by
  obtain ⟨h1, h2, h3⟩ := lf_fit h
  refine ⟨?_, ?_, ?_⟩
  · simp only [oks, h1]
  · simp only [wt]; omega
  · simp only [PyData.depth]; omega
theorem ok_sh {n : Int} {us : List Tie} (ok : Ok n us) (n40 : n ≤ 40) : ∀ t ∈ us, Sh t := fun t ht => by
  obtain ⟨a, b, c, d⟩ := ok.1 t ht
  obtain ⟨a1, a2, a3, a4⟩ := wgt_b a
  exact ⟨sm_of b (by omega), sm_of (by omega) (by omega), sm_of a1 a2, sm_of (by omega) (by omega)⟩
theorem e_made {M : Sto} {n : Int} {us : List Tie} (ok : Ok n us) (n1 : 1 ≤ n) (n40 : n ≤ 40) : ∃ M', F__law_made [I n, .d (.list (rowsP us))] M = some (B true, M') ∧ Kp (fun _ => False) M M' := by
  have h64 := ok.2.2
  have tu : ∀ N, tupleF [.d (.list (rowsP us))] N = some (.d (.tuple (rowsP us)), N) := fun _ => rfl
  have el := e_lists us M h64
  have rd := lists_rds us M
  have lM1 : (M ++ (lay M.length us ++ [Cell.lst (rowsAt M.length us)])).length = M.length + 2 * us.length + 1 := by
    rw [List.length_append, List.length_append, lay_len, List.length_cons, List.length_nil]; omega
  have m1l : ∀ q, q < 2 * us.length → (M ++ (lay M.length us ++ [Cell.lst (rowsAt M.length us)]))[M.length + q]? = (lay M.length us)[q]? := fun q hq => by
    rw [List.getElem?_append_right (Nat.le_add_right _ _), Nat.add_sub_cancel_left, List.getElem?_append_left (by rw [lay_len]; exact hq)]
  have m1r : (M ++ (lay M.length us ++ [Cell.lst (rowsAt M.length us)]))[M.length + 2 * us.length]? = some (.lst (rowsAt M.length us)) := by
    rw [List.getElem?_append_right (Nat.le_add_right _ _), Nat.add_sub_cancel_left, List.getElem?_append_right (by rw [lay_len]; omega), lay_len, Nat.sub_self]
    rfl
  have m1o : ∀ q, q < M.length → (M ++ (lay M.length us ++ [Cell.lst (rowsAt M.length us)]))[q]? = M[q]? := fun q hq => List.getElem?_append_left hq
  generalize hM1 : M ++ (lay M.length us ++ [.lst (rowsAt M.length us)]) = M1 at el rd lM1 m1l m1r m1o
  have hs := ok_sh ok n40
  have rp : ∀ L, reprC [.c (M.length + 2 * us.length)] (M1 ++ L) = some (.d (.str (PyData.shown (.list (us.map lf2)))), M1 ++ L) := fun L => by
    unfold reprC
    dsimp only
    rw [show snap 5 (M1 ++ L) (.c (M.length + 2 * us.length)) = some (.list (us.map lf2)) from rd L, Option.bind_some, if_pos ((fit_lf hs h64).shown (by rw [sizeLine_eq]; decide))]
  have rp0 : reprC [.c (M.length + 2 * us.length)] M1 = some (.d (.str (PyData.shown (.list (us.map lf2)))), M1) := by
    have := rp []; rwa [List.append_nil] at this
  obtain ⟨v1, p1, s1, w1⟩ := e_web (M := M1) (n := n) (x := .d (.tuple (rowsP us))) (d := .tuple (rowsP us)) (ds := rowsP us) (us := us) (γ := [some (I n), some (.d (.list (rowsP us))), some (.c (M.length + 2 * us.length)), some (.d (.str (PyData.shown (.list (us.map lf2))))), none, none]) (fa := fCons (fVar 0) (fCons (fCall tupleF (fCons (fVar 1) fNil)) fNil)) rfl Rds.d rfl (fun L zs => hu_of us zs (f := fun t => .tuple (f2 t)) fun t ht => ⟨_, rfl, rfl, (ok.1 t ht).1, (ok.1 t ht).2⟩) ok.2.1 h64 n1 n40
  have lM2 : (M1 ++ webC M1.length n us v1).length = M1.length + 3 := by rw [List.length_append]; rfl
  obtain ⟨v2, p2, s2, w2⟩ := e_web (M := M1 ++ webC M1.length n us v1) (n := n) (x := .c (M.length + 2 * us.length)) (d := .list (us.map lf2)) (ds := us.map lf2) (us := us) (γ := [some (I n), some (.d (.list (rowsP us))), some (.c (M.length + 2 * us.length)), some (.d (.str (PyData.shown (.list (us.map lf2))))), some (.c M1.length), none]) (fa := fCons (fVar 0) (fCons (fVar 2) fNil)) rfl (rd _) rfl (fun L zs => hu_of us zs (f := lf2) fun t ht => ⟨_, rfl, rfl, (ok.1 t ht).1, (ok.1 t ht).2⟩) ok.2.1 h64 n1 n40
  have hw1 : HasWeb (M1 ++ webC M1.length n us v1 ++ webC (M1.length + 3) n us v2) M1.length n v1 := hasWeb_new
  have hw2 : HasWeb (M1 ++ webC M1.length n us v1 ++ webC (M1.length + 3) n us v2) (M1.length + 3) n v2 := by
    have := hasWeb_new (M := M1 ++ webC M1.length n us v1) (L := []) (n := n) (us := us) (vs := v2)
    rwa [List.append_nil, lM2] at this
  rw [lM2] at w2
  have rp3 : reprC [.c (M.length + 2 * us.length)] (M1 ++ webC M1.length n us v1 ++ webC (M1.length + 3) n us v2) = some (.d (.str (PyData.shown (.list (us.map lf2)))), M1 ++ webC M1.length n us v1 ++ webC (M1.length + 3) n us v2) := by
    have := rp (webC M1.length n us v1 ++ webC (M1.length + 3) n us v2)
    rwa [← List.append_assoc] at this
  have m3 : ∀ q, q < M1.length → (M1 ++ webC M1.length n us v1 ++ webC (M1.length + 3) n us v2)[q]? = M1[q]? := fun q hq => by
    rw [List.append_assoc, List.getElem?_append_left hq]
  have lM3 : (M1 ++ webC M1.length n us v1 ++ webC (M1.length + 3) n us v2).length = M1.length + 6 := by rw [List.length_append, lM2]; rfl
  generalize M1 ++ webC M1.length n us v1 ++ webC (M1.length + 3) n us v2 = M3 at w2 hw1 hw2 rp3 m3 lM3
  obtain ⟨M4, e4, k4⟩ := e_spoil (M := M3) (b := M.length) h64 (by rw [m3 _ (by omega)]; exact m1r) (fun q hq => by rw [m3 _ (by omega)]; exact m1l q hq)
  have hx1 : HasWeb M4 M1.length n v1 := ⟨by rw [k4.2 _ (by omega) (by omega)]; exact hw1.1, by rw [k4.2 _ (by omega) (by omega)]; exact hw1.2⟩
  have hx2 : HasWeb M4 (M1.length + 3) n v2 := ⟨by rw [k4.2 _ (by omega) (by omega)]; exact hw2.1, by rw [k4.2 _ (by omega) (by omega)]; exact hw2.2⟩
  have y1 := e_holds hx1 ok p1 s1 n1 n40
  have y2 := e_holds (hx2.up (L := [.dt (kvOf (v1.filter big))])) ok p2 s2 n1 n40
  refine ⟨M4 ++ [.dt (kvOf (v1.filter big))] ++ [.dt (kvOf (v2.filter big))], ?_, ?_, ?_⟩
  · simp only [F__law_made, m__law_made, fnF, sSeq, sIf, sRet, sNext, sAsg, sDrop, hName, gB, fCall, fCons, fNil, fVar, fC, fOp, fAnd, asB, Option.bind_some, List.getElem?_cons_zero, List.getElem?_cons_succ, List.length_cons, List.length_nil, List.set_cons_zero, List.set_cons_succ, List.map_cons, List.map_nil, List.replicate_zero, List.replicate_succ, List.cons_append, List.nil_append, if_true, ite_false, Nat.reduceAdd, Nat.reduceSub, Bool.false_eq_true, tu, el, rp0, w1, w2, rp3, eqSS, e4, y1, y2]
  · have := k4.1
    rw [List.length_append, List.length_append]
    omega
  · intro q hq _
    have := k4.1
    rw [List.append_assoc, List.getElem?_append_left (by omega), k4.2 q (by omega) (by omega), m3 q (by omega), m1o q hq]
end Q4

end

section
set_option Elab.async false
set_option linter.all false
set_option maxRecDepth 100000
set_option maxHeartbeats 2000000
namespace Q4
open PySem PySem.Spec PyProof.Rows L2
theorem rng_succ (lo : Int) (m : Nat) : rngD lo (m + 1) = I lo :: rngD (lo + 1) m := by
  unfold rngD
  rw [List.range_succ_eq_map, List.map_cons, List.map_map]
  congr 1
  · show CD.d (.int (lo + ((0 : Nat) : Int))) = _
    rw [show lo + ((0 : Nat) : Int) = lo by omega]
  · refine List.map_congr_left fun i _ => ?_
    show CD.d (.int (lo + ((i + 1 : Nat) : Int))) = .d (.int (lo + 1 + (i : Nat)))
    rw [show lo + ((i + 1 : Nat) : Int) = lo + 1 + (i : Nat) by omega]
theorem slL (xs : List PyData) (lo hi : Option Int) (M : Sto) : slF (.d (.list xs)) lo hi M = some (.d (.list (cutL xs lo hi)), M) := rfl
theorem asI_I (i : Int) : asI (I i) = some i := rfl
theorem addX_l {xs ys : List PyData} {M : Sto} (hl : (xs ++ ys).length ≤ sizeLine) : addX (.d (.list xs)) (.d (.list ys)) M = some (.d (.list (xs ++ ys)), M) := by
  have a : addI (.d (.list xs)) (.d (.list ys)) M = none := rfl
  have c : catL (.d (.list xs)) (.d (.list ys)) M = some (.d (.list (xs ++ ys)), M) := by
    unfold catL
    simp only [lstOf, Option.bind_some]
    rw [← List.map_append, allD_map, Option.bind_some, if_pos hl]
  unfold addX orF2
  rw [a]
  dsimp only
  rw [c]
theorem cut_to {xs : List PyData} {r : Nat} (h : r ≤ xs.length) : cutL xs none (some (r : Int)) = xs.take r := by
  unfold cutL
  rw [HT.sIx_none, HT.sIx_nat, List.drop_zero, Nat.sub_zero, Nat.min_eq_left h]
theorem cut_from {xs : List PyData} {r : Nat} (h : r ≤ xs.length) : cutL xs (some (r : Int)) none = xs.drop r := by
  unfold cutL
  rw [HT.sIx_none, HT.sIx_nat, Nat.min_eq_left h, List.take_of_length_le]
  rw [List.length_drop]
  exact Nat.le_refl _
theorem rows_len (us : List Tie) : (rowsP us).length = us.length := by unfold rowsP; rw [List.length_map]
theorem tie_turn {M : Sto} {s : Nat} {n c j i : Int} {us : List Tie} {g6 : Option CD} (h : Stm M s) (h64 : us.length < 64) :
    ∃ us' g M', L__law_ties_0 [some (.c s), some (I n), some (I c), some (.d (.list (rowsP us))), some (I j), some (I i), g6] M = some (.nx [some (.c s), some (I n), some (I c), some (.d (.list (rowsP us'))), some (I j), some (I i), g], M') ∧ Stm M' s ∧ (us' = us ∨ ∃ a b, wgtI a b = true ∧ us'.Perm (⟨i, j, a, b⟩ :: us)) := by
  obtain ⟨r, M1, e1, r0, r1, n1⟩ := e_take (m := 4) h (by decide) (by decide)
  have h1 := n1.stm h
  by_cases q : r < c
  · have ln : lenF [.d (.list (rowsP us))] M1 = some (I us.length, M1) := by
      unfold lenF
      dsimp only
      rw [show itemsD (.list (rowsP us)) = some (rowsP us) from rfl, Option.bind_some, rows_len]
    obtain ⟨k, M2, e2, k0, k1, n2⟩ := e_take (m := (us.length : Int) + 1) h1 (by omega) (by
      have : (2 : Int) ^ 200 = 1606938044258990275541962092341162602522202993782792835301376 := by decide
      omega)
    have h2 := n2.stm h1
    obtain ⟨a, b, M3, e3, w3, n3⟩ := e_weight h2
    have h3 := n3.stm h2
    obtain ⟨k, rfl⟩ : ∃ z : Nat, k = (z : Int) := ⟨k.toNat, by omega⟩
    have kl : k ≤ (rowsP us).length := by rw [rows_len]; omega
    have rr : rowsP us = (rowsP us).take k ++ (rowsP us).drop k := (List.take_append_drop ..).symm
    have c1 := cut_to kl
    have c2 := cut_from kl
    have z1 : (1 : Nat) ≤ sizeLine := z_le (by decide)
    have z2 : (2 : Nat) ≤ sizeLine := z_le (by decide)
    have z3 : (3 : Nat) ≤ sizeLine := z_le (by decide)
    have lt : ((rowsP us).take k).length ≤ us.length := by rw [List.length_take, rows_len]; omega
    have ld : ((rowsP us).drop k).length ≤ us.length := by rw [List.length_drop, rows_len]; omega
    have a1 : addX (.d (.list ((rowsP us).take k))) (.d (.list [.tuple [.int i, .int j, .tuple [.int a, .int b]]])) M3 = some (.d (.list ((rowsP us).take k ++ [.tuple [.int i, .int j, .tuple [.int a, .int b]]])), M3) := addX_l (z_le (by rw [List.length_append, List.length_cons, List.length_nil]; omega))
    have a2 : addX (.d (.list ((rowsP us).take k ++ [.tuple [.int i, .int j, .tuple [.int a, .int b]]]))) (.d (.list ((rowsP us).drop k))) M3 = some (.d (.list ((rowsP us).take k ++ [.tuple [.int i, .int j, .tuple [.int a, .int b]]] ++ (rowsP us).drop k)), M3) := addX_l (z_le (by rw [List.length_append, List.length_append, List.length_cons, List.length_nil]; omega))
    have er : (rowsP us).take k ++ [.tuple [.int i, .int j, .tuple [.int a, .int b]]] ++ (rowsP us).drop k = rowsP (us.take k ++ [⟨i, j, a, b⟩] ++ us.drop k) := by
      unfold rowsP
      rw [List.map_append, List.map_append, List.map_take, List.map_drop]
      rfl
    have e3 : F__law_weight [.c s] M2 = some (.d (.tuple [.int a, .int b]), M3) := e3
    refine ⟨us.take k ++ [⟨i, j, a, b⟩] ++ us.drop k, some (I k), M3, ?_, h3, .inr ⟨a, b, w3, ?_⟩⟩
    · rw [← er]
      simp only [L__law_ties_0, fSl, fNoPart, fPart, sSeq, sIf, sNext, sAsg, hName, gB, fCall, fCons, fNil, fVar, fC, fOp, asB, fTup, fLst, allD, pI, ltI, Option.bind_some, Option.map_some, List.getElem?_cons_zero, List.getElem?_cons_succ, List.length_cons, List.length_nil, List.set_cons_zero, List.set_cons_succ, if_true, Nat.reduceAdd, e1, decide_eq_true q, ln, addII, e2, slL, asI_I, c1, c2, e3, z1, z3, a1, a2]
    · rw [List.append_assoc]
      have p := List.perm_middle (a := (⟨i, j, a, b⟩ : Tie)) (l₁ := us.take k) (l₂ := us.drop k)
      rw [List.take_append_drop] at p
      exact p
  · refine ⟨us, g6, M1, ?_, h1, .inl rfl⟩
    simp only [L__law_ties_0, sSeq, sIf, sNext, sAsg, hName, gB, fCall, fCons, fNil, fVar, fC, fOp, asB, fTup, fLst, pI, ltI, Option.bind_some, List.getElem?_cons_zero, List.getElem?_cons_succ, List.set_cons_zero, List.set_cons_succ, ite_false, Bool.false_eq_true, e1, decide_eq_false q]
structure Dr (n J K : Int) (us : List Tie) : Prop where
  ok : ∀ t ∈ us, (wgtI t.a t.b = true ∧ 0 ≤ t.i ∧ t.i < t.j ∧ t.j < n) ∧ (t.j < J ∨ (t.j = J ∧ t.i < K))
  nd : (us.map Tie.key).Nodup
theorem Dr.more {n J K a b : Int} {us us' : List Tie} (d : Dr n J K us) (k0 : 0 ≤ K) (kj : K < J) (jn : J < n) (h : us' = us ∨ ∃ a b, wgtI a b = true ∧ us'.Perm (⟨K, J, a, b⟩ :: us)) : Dr n J (K + 1) us' ∧ us'.length ≤ us.length + 1 := by
  rcases h with rfl | ⟨a, b, w, p⟩
  · exact ⟨⟨fun t ht => ⟨(d.ok t ht).1, by have := (d.ok t ht).2; omega⟩, d.nd⟩, by omega⟩
  · refine ⟨⟨fun t ht => ?_, ?_⟩, by rw [p.length_eq, List.length_cons]; exact Nat.le_refl _⟩
    · rcases List.mem_cons.mp (p.subset ht) with rfl | ht
      · exact ⟨⟨w, k0, kj, jn⟩, .inr ⟨rfl, by show K < K + 1; omega⟩⟩
      · exact ⟨(d.ok t ht).1, by have := (d.ok t ht).2; omega⟩
    · rw [(p.map Tie.key).nodup_iff, List.map_cons, List.nodup_cons]
      refine ⟨fun z => ?_, d.nd⟩
      obtain ⟨t, ht, e⟩ := List.mem_map.mp z
      have e : ([.inl t.i, .inl t.j] : List Key) = [.inl K, .inl J] := e
      injection e with e1 e2
      injection e2 with e2 _
      injection e1 with e1
      injection e2 with e2
      have := (d.ok t ht).2
      omega
theorem inner {s : Nat} {n c j : Int} (jn : j < n) : ∀ (m : Nat) (i : Int) (us : List Tie) (g5 g6 : Option CD) (M : Sto), 0 ≤ i → i + m = j → Stm M s → Dr n j i us → us.length + m < 64 →
    ∃ us' g g' M', forF (hName 5) L__law_ties_0 (rngD i m) [some (.c s), some (I n), some (I c), some (.d (.list (rowsP us))), some (I j), g5, g6] M = some (.nx [some (.c s), some (I n), some (I c), some (.d (.list (rowsP us'))), some (I j), g, g'], M') ∧ Stm M' s ∧ Dr n j j us' ∧ us'.length ≤ us.length + m
  | 0, i, us, g5, g6, M, i0, hi, h, d, _ => ⟨us, g5, g6, M, rfl, h, by rwa [show i = j by omega] at d, Nat.le_refl _⟩
  | m + 1, i, us, g5, g6, M, i0, hi, h, d, hl => by
    obtain ⟨us1, g, M1, e1, h1, q⟩ := tie_turn (n := n) (c := c) (j := j) (i := i) (g6 := g6) h (us := us) (by omega)
    obtain ⟨d1, l1⟩ := d.more (a := 0) (b := 0) i0 (by omega) jn q
    obtain ⟨us2, g2, g3, M2, e2, h2, d2, l2⟩ := inner jn m (i + 1) us1 (some (I i)) g M1 (by omega) (by omega) h1 d1 (by omega)
    refine ⟨us2, g2, g3, M2, ?_, h2, d2, by omega⟩
    rw [rng_succ]
    unfold forF
    simp only [hName, List.set_cons_zero, List.set_cons_succ, Option.bind_some, e1]
    exact e2
def tri : Nat → Nat
  | 0 => 0
  | k + 1 => tri k + k
theorem sm_small {J : Int} (h0 : 0 ≤ J) (h1 : J ≤ 40) : small62 J = true := by
  simp only [small62, Bool.and_eq_true, decide_eq_true_eq]
  omega
theorem in_turn {J : Int} {x0 x1 x2 x3 : CD} {g5 g6 : Option CD} {γ' : Ga} {M M' : Sto} (h0 : 0 ≤ J) (h1 : J ≤ 40) (e : forF (hName 5) L__law_ties_0 (rngD 0 J.toNat) [some x0, some x1, some x2, some x3, some (I J), g5, g6] M = some (.nx γ', M')) : L__law_ties_1 [some x0, some x1, some x2, some x3, some (I J), g5, g6] M = some (.nx γ', M') := by
  have sm := sm_small h0 h1
  simp only [L__law_ties_1, sFor, fRng1, fCons, fNil, fVar, Option.bind_some, List.getElem?_cons_zero, List.getElem?_cons_succ, if_true, sm, e]
theorem tri_succ (k : Nat) : tri (k + 1) = tri k + k := rfl
theorem tri8 {j : Nat} (h : j ≤ 8) : tri j ≤ 28 := by
  have : j = 0 ∨ j = 1 ∨ j = 2 ∨ j = 3 ∨ j = 4 ∨ j = 5 ∨ j = 6 ∨ j = 7 ∨ j = 8 := by omega
  rcases this with rfl | rfl | rfl | rfl | rfl | rfl | rfl | rfl | rfl <;> decide
theorem out_turn {s : Nat} {n c : Int} (n9 : n ≤ 9) {j : Nat} {us : List Tie} {g4 g5 g6 : Option CD} {M : Sto} (hj : (j : Int) < n) (h : Stm M s) (d : Dr n j 0 us) (l : us.length ≤ tri j) :
    ∃ us' g' g'' M', L__law_ties_1 [some (.c s), some (I n), some (I c), some (.d (.list (rowsP us))), some (I j), g5, g6] M = some (.nx [some (.c s), some (I n), some (I c), some (.d (.list (rowsP us'))), some (I j), g', g''], M') ∧ Stm M' s ∧ Dr n ((j + 1 : Nat) : Int) 0 us' ∧ us'.length ≤ tri (j + 1) := by
  have t8 := tri8 (j := j) (by omega)
  obtain ⟨us1, g, g', M1, e1, h1, d1, l1⟩ := inner (s := s) (n := n) (c := c) (j := (j : Int)) hj j 0 us g5 g6 M (by omega) (by omega) h d (by omega)
  have d2 : Dr n ((j + 1 : Nat) : Int) 0 us1 := ⟨fun t ht => ⟨(d1.ok t ht).1, by have := (d1.ok t ht).2; omega⟩, d1.nd⟩
  refine ⟨us1, g, g', M1, ?_, h1, d2, by rw [tri_succ]; omega⟩
  exact in_turn (by omega) (by omega) (by rw [Int.toNat_natCast]; exact e1)
theorem outer {s : Nat} {n c : Int} (n9 : n ≤ 9) (m : Nat) : ∀ (j : Nat) (us : List Tie) (g4 g5 g6 : Option CD) (M : Sto), ((j + m : Nat) : Int) = n → Stm M s → Dr n j 0 us → us.length ≤ tri j →
    ∃ us' g g' g'' M', forF (hName 4) L__law_ties_1 (rngD j m) [some (.c s), some (I n), some (I c), some (.d (.list (rowsP us))), g4, g5, g6] M = some (.nx [some (.c s), some (I n), some (I c), some (.d (.list (rowsP us'))), g, g', g''], M') ∧ Stm M' s ∧ Dr n n 0 us' ∧ us'.length ≤ tri (j + m) := by
  induction m with
  | zero => intro j us g4 g5 g6 M hj h d l; exact ⟨us, g4, g5, g6, M, rfl, h, by rwa [show ((j : Nat) : Int) = n by omega] at d, l⟩
  | succ m ih =>
    intro j us g4 g5 g6 M hj h d l
    obtain ⟨us1, g, g', M1, e1, h1, d1, l1⟩ := out_turn (c := c) (g4 := g4) (g5 := g5) (g6 := g6) n9 (j := j) (us := us) (M := M) (by omega) h d l
    obtain ⟨us2, q1, q2, q3, M2, e2, h2, d2, l2⟩ := ih (j + 1) us1 (some (I j)) g g' M1 (by omega) h1 d1 l1
    refine ⟨us2, q1, q2, q3, M2, ?_, h2, d2, by rwa [show j + (m + 1) = j + 1 + m by omega]⟩
    rw [rng_succ, show ((j : Nat) : Int) + 1 = ((j + 1 : Nat) : Int) by omega]
    unfold forF
    rw [show hName 4 (I j) [some (.c s), some (I n), some (I c), some (.d (.list (rowsP us))), g4, g5, g6] M = some ([some (.c s), some (I n), some (I c), some (.d (.list (rowsP us))), some (I j), g5, g6], M) from rfl, Option.bind_some, e1, Option.bind_some]
    exact e2
theorem e_ties {M : Sto} {s : Nat} {n : Int} (h : Stm M s) (n1 : 1 ≤ n) (n9 : n ≤ 9) : ∃ us M', F__law_ties [.c s, I n] M = some (.d (.list (rowsP us)), M') ∧ Stm M' s ∧ Ok n us := by
  obtain ⟨c, M1, e1, c0, c1, m1⟩ := e_take (m := 4) h (by decide) (by decide)
  obtain ⟨us, g, g', g'', M2, e2, h2, d2, l2⟩ := outer (s := s) (n := n) (c := c) n9 n.toNat 0 [] none none none M1 (by omega) (m1.stm h) ⟨fun t ht => (by cases ht), List.nodup_nil⟩ (Nat.le_refl _)
  have e2 : forF (hName 4) L__law_ties_1 (rngD 0 n.toNat) [some (.c s), some (I n), some (I c), some (.d (.list [])), none, none, none] M1 = _ := e2
  have t9 : tri (0 + n.toNat) ≤ 36 := by
    obtain ⟨k, hk⟩ : ∃ k, n.toNat = k := ⟨_, rfl⟩
    rw [hk]
    have : k = 0 ∨ k = 1 ∨ k = 2 ∨ k = 3 ∨ k = 4 ∨ k = 5 ∨ k = 6 ∨ k = 7 ∨ k = 8 ∨ k = 9 := by omega
    rcases this with rfl | rfl | rfl | rfl | rfl | rfl | rfl | rfl | rfl | rfl <;> decide
  refine ⟨us, M2, ?_, h2, fun t ht => (d2.ok t ht).1, d2.nd, by omega⟩
  have sm : small62 n = true := by
    simp only [small62, Bool.and_eq_true, decide_eq_true_eq]
    omega
  have z0 : (0 : Nat) ≤ sizeLine := Nat.zero_le _
  simp only [F__law_ties, m__law_ties, sFor, fRng1, fnF, sSeq, sRet, sAsg, hName, fCall, fCons, fNil, fVar, fC, fLst, allD, Option.bind_some, List.getElem?_cons_zero, List.getElem?_cons_succ, List.length_cons, List.length_nil, List.set_cons_zero, List.set_cons_succ, List.map_cons, List.map_nil, List.replicate_zero, List.replicate_succ, List.cons_append, List.nil_append, if_true, Nat.reduceAdd, Nat.reduceSub, e1, z0, sm, e2]
end Q4

end

section
set_option Elab.async false
set_option linter.all false
set_option maxRecDepth 100000
set_option maxHeartbeats 2000000
namespace Q4
open PySem PySem.Spec PyProof.Rows L2
theorem Stm.kp {M M' : Sto} {s : Nat} (h : Stm M s) (k : Kp (fun _ => False) M M') : Stm M' s := by
  obtain ⟨a, b, e, r⟩ := h
  exact ⟨a, b, by rw [k.2 s (List.getElem?_eq_some_iff.mp e).1 (fun z => z)]; exact e, r⟩
theorem row_comp {s : Nat} {G : Int} : ∀ (m : Nat) (i : Int) (g : Option CD) (M : Sto), Stm M s → 0 ≤ i →
    ∃ us M', lcF (hName 2) gYes (fTup (fCons (fVar 2) (fCons (fOp subI (fVar 0) (fC (.int 1))) (fCons (fCall F__law_weight (fCons (fVar 1) fNil)) fNil)))) (rngD i m) [some (I G), some (.c s), g] M = some ((rowsP us).map .d, M') ∧ Stm M' s ∧ us.length = m ∧ (∀ t ∈ us, wgtI t.a t.b = true ∧ i ≤ t.i ∧ t.i < i + m ∧ t.j = G - 1) ∧ (us.map Tie.key).Nodup
  | 0, i, g, M, h, _ => ⟨[], M, rfl, h, rfl, fun t ht => (by cases ht), List.nodup_nil⟩
  | m + 1, i, g, M, h, i0 => by
    obtain ⟨a, b, M1, e1, w1, n1⟩ := e_weight h
    have h1 := n1.stm h
    obtain ⟨us, M2, e2, h2, l2, o2, d2⟩ := row_comp (G := G) m (i + 1) (some (I i)) M1 h1 (by omega)
    have e1 : F__law_weight [.c s] M = some (.d (.tuple [.int a, .int b]), M1) := e1
    have z3 : (3 : Nat) ≤ sizeLine := z_le (by decide)
    refine ⟨⟨i, G - 1, a, b⟩ :: us, M2, ?_, h2, by rw [List.length_cons, l2], fun t ht => ?_, ?_⟩
    · rw [rng_succ]
      unfold lcF
      simp only [gYes, hName, fCall, fCons, fNil, fVar, fC, fOp, fTup, allD, pI, subI, Option.bind_some, Option.map_some, List.getElem?_cons_zero, List.getElem?_cons_succ, List.length_cons, List.length_nil, List.set_cons_zero, List.set_cons_succ, if_true, Nat.reduceAdd, e1, z3]
      exact (congrArg (fun o : Option (List CD × Sto) => o.bind _) e2).trans rfl
    · rcases List.mem_cons.mp ht with rfl | ht
      · exact ⟨w1, Int.le_refl _, by show i < i + ((m + 1 : Nat) : Int); omega, rfl⟩
      · obtain ⟨q1, q2, q3, q4⟩ := o2 t ht
        exact ⟨q1, by omega, by omega, q4⟩
    · rw [List.map_cons, List.nodup_cons]
      refine ⟨fun z => ?_, d2⟩
      obtain ⟨t, ht, e⟩ := List.mem_map.mp z
      have e : ([.inl t.i, .inl t.j] : List Key) = [.inl i, .inl (G - 1)] := e
      injection e with e1 _
      injection e1 with e1
      have := (o2 t ht).2.1
      omega
theorem row_ok {G c : Int} {us : List Tie} (g1 : 39 ≤ G) (g2 : G ≤ 40) (c1 : c ≤ G - 1) (l : (us.length : Int) = c) (o : ∀ t ∈ us, wgtI t.a t.b = true ∧ 0 ≤ t.i ∧ t.i < 0 + c ∧ t.j = G - 1) (d : (us.map Tie.key).Nodup) : Ok G (us ++ [⟨0, 1, 1, 55440⟩]) := by
  refine ⟨fun t ht => ?_, ?_, ?_⟩
  · rcases List.mem_append.mp ht with ht | ht
    · obtain ⟨q1, q2, q3, q4⟩ := o t ht
      exact ⟨q1, q2, by omega, by omega⟩
    · rcases List.mem_singleton.mp ht with rfl
      exact ⟨by decide, by decide, by decide, by show (1 : Int) < G; omega⟩
  · rw [List.map_append, List.nodup_append]
    refine ⟨d, by simp, fun x hx y hy e => ?_⟩
    obtain ⟨t, ht, rfl⟩ := List.mem_map.mp hx
    have hy : y = ([.inl 0, .inl 1] : List Key) := List.mem_singleton.mp hy
    rw [hy] at e
    have e : ([.inl t.i, .inl t.j] : List Key) = [.inl 0, .inl 1] := e
    injection e with _ e2
    injection e2 with e2 _
    injection e2 with e2
    have := (o t ht).2.2.2
    omega
  · rw [List.length_append, List.length_cons, List.length_nil]
    omega
theorem e_row {s : Nat} {G c : Int} {x0 x1 x3 : CD} {g6 : Option CD} {M : Sto} (h : Stm M s) (c0 : 0 ≤ c) (c1 : c ≤ 40) : ∃ us M', C_law_0 [some x0, some x1, some (.c s), some x3, some (I G), some (I c), g6] M = some (.d (.list (rowsP us)), M') ∧ Stm M' s ∧ (us.length : Int) = c ∧ (∀ t ∈ us, wgtI t.a t.b = true ∧ 0 ≤ t.i ∧ t.i < 0 + c ∧ t.j = G - 1) ∧ (us.map Tie.key).Nodup := by
  obtain ⟨us, M', e, h', l, o, d⟩ := row_comp (s := s) (G := G) c.toNat 0 none M h (Int.le_refl _)
  refine ⟨us, M', ?_, h', by omega, fun t ht => ?_, d⟩
  · have sm := sm_small c0 c1
    have f : fRng1 (fCons (fVar 5) fNil) [some x0, some x1, some (.c s), some x3, some (I G), some (I c), g6] M = some (rngD 0 c.toNat, M) := by
      simp only [fRng1, fCons, fNil, fVar, Option.bind_some, List.getElem?_cons_zero, List.getElem?_cons_succ, if_true, sm]
    have z : (rngD 0 c.toNat).length ≤ sizeLine := z_le (by unfold rngD; rw [List.length_map, List.length_range]; omega)
    have z' : (rowsP us).length ≤ sizeLine := z_le (by rw [rows_len]; omega)
    unfold C_law_0 fLc fLst lcRun
    rw [f, Option.bind_some]
    dsimp only
    rw [if_pos z, show capG [some 4, some 2, none] [some x0, some x1, some (.c s), some x3, some (I G), some (I c), g6] = [some (I G), some (.c s), none] from rfl, e, Option.bind_some]
    dsimp only
    rw [allD_map, Option.bind_some, if_pos z']
  · obtain ⟨q1, q2, q3, q4⟩ := o t ht
    exact ⟨q1, q2, by omega, q4⟩
theorem turn0 {ns : List Int} {k : Int} {g2 g3 g4 g5 g6 : Option CD} {M : Sto} (k0 : 0 ≤ k) (k1 : k < 1000) : ∃ q2 q3 q4 q5 q6 M', L_law_0 [some (.d (.list (ns.map .int))), some (I k), g2, g3, g4, g5, g6] M = some (.nx [some (.d (.list (ns.map .int))), some (I k), q2, q3, q4, q5, q6], M') := by
  obtain ⟨M1, e1, h1⟩ := e_stream (ns := ns) (M := M) k0 k1
  obtain ⟨r, M2, e2, r0, r1, n2⟩ := e_take (m := 9) h1 (by decide) (by decide)
  have h2 := n2.stm h1
  obtain ⟨us, M3, e3, h3, ok3⟩ := e_ties (n := 1 + r) h2 (by omega) (by omega)
  obtain ⟨M4, e4, p4⟩ := e_made (M := M3) ok3 (by omega) (by omega)
  have h4 := h3.kp p4
  obtain ⟨u, M5, e5, u0, u1, n5⟩ := e_take (m := 2) h4 (by decide) (by decide)
  have h5 := n5.stm h4
  obtain ⟨v, M6, e6, v0, v1, n6⟩ := e_take (m := 39 + u - 1) h5 (by omega) (by
    have : (2 : Int) ^ 200 = 1606938044258990275541962092341162602522202993782792835301376 := by decide
    omega)
  have h6 := n6.stm h5
  obtain ⟨ts, M7, e7, h7, l7, o7, d7⟩ := e_row (s := M.length) (G := 39 + u) (c := 1 + v) (x0 := .d (.list (ns.map .int))) (x1 := I k) (x3 := I (1 + r)) (g6 := g6) h6 (by omega) (by omega)
  have ok8 := row_ok (G := 39 + u) (c := 1 + v) (by omega) (by omega) (by omega) l7 o7 d7
  obtain ⟨M8, e8, p8⟩ := e_made (M := M7) ok8 (by omega) (by omega)
  have er : rowsP (ts ++ [⟨0, 1, 1, 55440⟩]) = rowsP ts ++ [(.tuple [(.int 0), (.int 1), (.tuple [(.int 1), (.int 55440)])])] := by unfold rowsP; rw [List.map_append]; rfl
  have a8 : addX (.d (.list (rowsP ts))) (.d (.list [(.tuple [(.int 0), (.int 1), (.tuple [(.int 1), (.int 55440)])])])) M7 = some (.d (.list (rowsP (ts ++ [⟨0, 1, 1, 55440⟩]))), M7) := by
    rw [er]
    exact addX_l (z_le (by rw [List.length_append, rows_len, List.length_cons, List.length_nil]; omega))
  cases hk : (k == 0) with
  | true =>
    refine ⟨some (.c M.length), some (I (1 + r)), some (I (39 + u)), some (I (1 + v)), some (.d (.list (rowsP ts))), M8, ?_⟩
    simp only [L_law_0, sSeq, sIf, sRet, sNext, sAsg, hName, gAnd, gNot, gB, fCall, fCons, fNil, fVar, fC, fOp, asB, pI, subI, Option.bind_some, List.getElem?_cons_zero, List.getElem?_cons_succ, List.set_cons_zero, List.set_cons_succ, if_true, ite_false, Bool.not_true, Bool.false_eq_true, e1, e2, addII, e3, e4, e5, e6, e7, eqII, hk, eK_law_0, a8, e8]
  | false =>
    refine ⟨some (.c M.length), some (I (1 + r)), some (I (39 + u)), some (I (1 + v)), some (.d (.list (rowsP ts))), M7, ?_⟩
    simp only [L_law_0, sSeq, sIf, sRet, sNext, sAsg, hName, gAnd, gNot, gB, fCall, fCons, fNil, fVar, fC, fOp, asB, pI, subI, Option.bind_some, List.getElem?_cons_zero, List.getElem?_cons_succ, List.set_cons_zero, List.set_cons_succ, ite_false, Bool.not_true, Bool.false_eq_true, e1, e2, addII, e3, e4, e5, e6, e7, eqII, hk, eK_law_0, a8, e8]
theorem forF_inv {g : GF} {b : SF} (Inv : Ga → Sto → Prop) : ∀ xs : List CD, (∀ x ∈ xs, ∀ γ M, Inv γ M → ∃ γ1 M1 γ' M', g x γ M = some (γ1, M1) ∧ b γ1 M1 = some (.nx γ', M') ∧ Inv γ' M') → ∀ γ M, Inv γ M → ∃ γ' M', forF g b xs γ M = some (.nx γ', M') ∧ Inv γ' M'
  | [], _, γ, M, h => ⟨γ, M, rfl, h⟩
  | x :: xs, hs, γ, M, h => by
    obtain ⟨γ1, M1, γ2, M2, e1, e2, h2⟩ := hs x List.mem_cons_self γ M h
    obtain ⟨γ', M', e3, h3⟩ := forF_inv Inv xs (fun y hy => hs y (List.mem_cons_of_mem _ hy)) γ2 M2 h2
    refine ⟨γ', M', ?_, h3⟩
    unfold forF
    rw [e1, Option.bind_some]
    dsimp only
    rw [e2, Option.bind_some]
    exact e3
theorem main (ns : List Int) (hl : ns.length ≤ 63) : ∃ M', F_law [.d (.list (ns.map .int))] [] = some (.d (.bool true), M') := by
  obtain ⟨γ2, M2, e2, k', a', b', c', d', f', rfl⟩ := forF_inv (g := hName 1) (b := L_law_0) (fun γ M' => ∃ k a b c d f, γ = [some (.d (.list (ns.map .int))), k, a, b, c, d, f]) (rngD 0 4) (fun x hx γ M' ⟨k, a, b, c, d, f, hγ⟩ => by
      subst hγ
      obtain ⟨j, rfl, j0, j1⟩ := rng_mem hx
      obtain ⟨q2, q3, q4, q5, q6, M3, e3⟩ := turn0 (ns := ns) (k := j) (g2 := a) (g3 := b) (g4 := c) (g5 := d) (g6 := f) (M := M') j0 (by omega)
      exact ⟨_, _, _, _, rfl, e3, _, _, _, _, _, _, rfl⟩) [some (.d (.list (ns.map .int))), none, none, none, none, none, none] [] ⟨none, none, none, none, none, none, rfl⟩
  refine ⟨M2, ?_⟩
  have it : fRng1 (fCons (fC (.int 4)) fNil) [some (.d (.list (ns.map .int))), none, none, none, none, none, none] [] = some (rngD 0 4, []) := rfl
  have f5 : sFor (fRng1 (fCons (fC (.int 4)) fNil)) (hName 1) L_law_0 [some (.d (.list (ns.map .int))), none, none, none, none, none, none] [] = some (.nx [some (.d (.list (ns.map .int))), k', a', b', c', d', f'], M2) := by
    unfold sFor
    rw [it, Option.bind_some]
    exact e2
  have c40 : eqX true (.d (.int 40)) (.d (.int 40)) ([] : Sto) = some (B false, []) := rfl
  simp only [F_law, m_law, fnF, sSeq, sIf, sRet, sNext, gB, fC, fOp, asB, Option.bind_some, List.length_cons, List.length_nil, List.map_cons, List.map_nil, List.replicate_zero, List.replicate_succ, List.cons_append, List.nil_append, if_true, ite_false, Nat.reduceAdd, Nat.reduceSub, Bool.false_eq_true, c40, f5]
end Q4

end

open PySem PySem.W PyProof.Rows
set_option maxRecDepth 100000 in
set_option maxHeartbeats 0 in
theorem PySem.Challenge.cw_cutstree_k04_web_holds : PySem.Challenge.rw_cutstree_k04_web.Holds := by
  w_on; o_law; k_head; (case hw => w_witness2)
  k_fill
  refine L2.law_walk (l := PySem.Challenge.rw_cutstree_k04_web) (F := Q4.F_law) (k := 11) (p := "_law_script") (by decide +kernel) rfl rfl ⟨rfl, by decide, by decide, rfl⟩ (fun w h Y => PySem.W.kIn_of Y) ?T Q4.main
  case T =>
    intro w mg h KX G
    refine Q4.fn_law (K := _) (mg := mg) ?TT
    refine' Q4.txt_mk KX G ?z_bool ?z_dict ?z_enumerate ?z_int ?z_isinstance ?z_len ?z_list ?z_max ?z_min ?z_range ?z_repr ?z_sorted ?z_tuple ?u_MOST_ABOVE ?u_BELOW ?u_MOST_PLACES ?a_Web ?cl_Web_pg ?cl_Web_hd ?cl_Web_po ?cl_Web_sa ?na_Web_ties ?na_Web_many ?na_Web_weights ?i_Web__init ?l_Web__init ?c_Web__init ?k_Web__init ?g_Web__init ?mk_Web ?kp_Web ?i_Web__tie ?l_Web__tie ?c_Web__tie ?k_Web__tie ?g_Web__tie ?a__law_stream ?l__law_stream ?c__law_stream ?k__law_stream ?a__law_take ?l__law_take ?c__law_take ?k__law_take ?a__law_lists ?l__law_lists ?c__law_lists ?k__law_lists ?a_is_whole ?l_is_whole ?c_is_whole ?k_is_whole ?a_is_row ?l_is_row ?c_is_row ?k_is_row ?a_common ?l_common ?c_common ?k_common ?a_is_row_of ?l_is_row_of ?c_is_row_of ?k_is_row_of ?a_has_amount_numbers ?l_has_amount_numbers ?c_has_amount_numbers ?k_has_amount_numbers ?a_is_in_parts ?l_is_in_parts ?c_is_in_parts ?k_is_in_parts ?a_is_weight ?l_is_weight ?c_is_weight ?k_is_weight ?a_is_place ?l_is_place ?c_is_place ?k_is_place ?a_are_unlike_places ?l_are_unlike_places ?c_are_unlike_places ?k_are_unlike_places ?a_is_between_places ?l_is_between_places ?c_is_between_places ?k_is_between_places ?a_is_tie ?l_is_tie ?c_is_tie ?k_is_tie ?a_kept_ties ?l_kept_ties ?c_kept_ties ?k_kept_ties ?a__law_spoil ?l__law_spoil ?c__law_spoil ?k__law_spoil ?a__law_due ?l__law_due ?c__law_due ?k__law_due ?a__law_holds ?l__law_holds ?c__law_holds ?k__law_holds ?a__law_made ?l__law_made ?c__law_made ?k__law_made ?a__law_pick ?l__law_pick ?c__law_pick ?k__law_pick ?a__law_least ?l__law_least ?c__law_least ?k__law_least ?a__law_weight ?l__law_weight ?c__law_weight ?k__law_weight ?a__law_ties ?l__law_ties ?c__law_ties ?k__law_ties ?a_law ?l_law ?c_law ?k_law
    (case z_bool => k_is)
    (case z_dict => k_is)
    (case z_enumerate => k_is)
    (case z_int => k_is)
    (case z_isinstance => k_is)
    (case z_len => k_is)
    (case z_list => k_is)
    (case z_max => k_is)
    (case z_min => k_is)
    (case z_range => k_is)
    (case z_repr => k_is)
    (case z_sorted => k_is)
    (case z_tuple => k_is)
    (case u_MOST_ABOVE => k_is)
    (case u_BELOW => k_is)
    (case u_MOST_PLACES => k_is)
    (case a_Web => k_is)
    (case cl_Web_pg => kernel_rfl)
    (case cl_Web_hd => kernel_rfl)
    (case cl_Web_po => kernel_rfl)
    (case cl_Web_sa => k_is)
    (case na_Web_ties => k_is)
    (case na_Web_many => k_is)
    (case na_Web_weights => k_is)
    (case i_Web__init => k_is)
    (case l_Web__init => k_is)
    (case c_Web__init => k_is)
    (case k_Web__init => k_is)
    (case g_Web__init => kernel_rfl)
    (case mk_Web => kernel_rfl)
    (case kp_Web => k_is)
    (case i_Web__tie => k_is)
    (case l_Web__tie => k_is)
    (case c_Web__tie => k_is)
    (case k_Web__tie => k_is)
    (case g_Web__tie => kernel_rfl)
    (case a__law_stream => k_is)
    (case l__law_stream => k_is)
    (case c__law_stream => k_is)
    (case k__law_stream => k_is)
    (case a__law_take => k_is)
    (case l__law_take => k_is)
    (case c__law_take => k_is)
    (case k__law_take => k_is)
    (case a__law_lists => k_is)
    (case l__law_lists => k_is)
    (case c__law_lists => k_is)
    (case k__law_lists => k_is)
    (case a_is_whole => k_is)
    (case l_is_whole => k_is)
    (case c_is_whole => k_is)
    (case k_is_whole => k_is)
    (case a_is_row => k_is)
    (case l_is_row => k_is)
    (case c_is_row => k_is)
    (case k_is_row => k_is)
    (case a_common => k_is)
    (case l_common => k_is)
    (case c_common => k_is)
    (case k_common => k_is)
    (case a_is_row_of => k_is)
    (case l_is_row_of => k_is)
    (case c_is_row_of => k_is)
    (case k_is_row_of => k_is)
    (case a_has_amount_numbers => k_is)
    (case l_has_amount_numbers => k_is)
    (case c_has_amount_numbers => k_is)
    (case k_has_amount_numbers => k_is)
    (case a_is_in_parts => k_is)
    (case l_is_in_parts => k_is)
    (case c_is_in_parts => k_is)
    (case k_is_in_parts => k_is)
    (case a_is_weight => k_is)
    (case l_is_weight => k_is)
    (case c_is_weight => k_is)
    (case k_is_weight => k_is)
    (case a_is_place => k_is)
    (case l_is_place => k_is)
    (case c_is_place => k_is)
    (case k_is_place => k_is)
    (case a_are_unlike_places => k_is)
    (case l_are_unlike_places => k_is)
    (case c_are_unlike_places => k_is)
    (case k_are_unlike_places => k_is)
    (case a_is_between_places => k_is)
    (case l_is_between_places => k_is)
    (case c_is_between_places => k_is)
    (case k_is_between_places => k_is)
    (case a_is_tie => k_is)
    (case l_is_tie => k_is)
    (case c_is_tie => k_is)
    (case k_is_tie => k_is)
    (case a_kept_ties => k_is)
    (case l_kept_ties => k_is)
    (case c_kept_ties => k_is)
    (case k_kept_ties => k_is)
    (case a__law_spoil => k_is)
    (case l__law_spoil => k_is)
    (case c__law_spoil => k_is)
    (case k__law_spoil => k_is)
    (case a__law_due => k_is)
    (case l__law_due => k_is)
    (case c__law_due => k_is)
    (case k__law_due => k_is)
    (case a__law_holds => k_is)
    (case l__law_holds => k_is)
    (case c__law_holds => k_is)
    (case k__law_holds => k_is)
    (case a__law_made => k_is)
    (case l__law_made => k_is)
    (case c__law_made => k_is)
    (case k__law_made => k_is)
    (case a__law_pick => k_is)
    (case l__law_pick => k_is)
    (case c__law_pick => k_is)
    (case k__law_pick => k_is)
    (case a__law_least => k_is)
    (case l__law_least => k_is)
    (case c__law_least => k_is)
    (case k__law_least => k_is)
    (case a__law_weight => k_is)
    (case l__law_weight => k_is)
    (case c__law_weight => k_is)
    (case k__law_weight => k_is)
    (case a__law_ties => k_is)
    (case l__law_ties => k_is)
    (case c__law_ties => k_is)
    (case k__law_ties => k_is)
    (case a_law => k_is)
    (case l_law => k_is)
    (case c_law => k_is)
    (case k_law => k_is)
