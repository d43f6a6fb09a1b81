import PyProof.Rows.All
import Wide.All
import OpenK.AllK
import Wide.FinOn
import Lean
import PyProof.EqAt
import PyProof.EqKinds
import PyProof.TupleCall
import PyProof.ReprLen
import KE.KIsAll
import PyProof.ExcArgsOwn
import PyProof.NsDelKeeps
import KE.KTryMore
import PyProof.InstStoreFacts
import PyProof.ExcInit
import PyProof.ExcClass2
import PyProof.Rows.ListMul
import PyProof.Draws
import PyProof.EnumMake
import PyProof.Rows.EnumRows
import KE.KItemsList
import PyProof.DictCompW
import PyProof.ListRange
import PyProof.ZipIter
import PyProof.AttrMissHeap
import KE.KDictOf
import PySem.Challenge.RW_cutstree_k08_pieces
set_option Elab.async false
section
set_option maxRecDepth 100000
set_option maxHeartbeats 0
namespace Q8
open PySem
def qv : Program := { PySem.Challenge.rw_cutstree_k08_pieces.prog with main := { PySem.Challenge.rw_cutstree_k08_pieces.prog.main with body := (((((((PySem.Challenge.rw_cutstree_k08_pieces.prog.main.body.eraseIdx 29).eraseIdx 24).eraseIdx 17).eraseIdx 10).eraseIdx 6).eraseIdx 4).eraseIdx 0) } }
end Q8
open PySem PySem.W PyProof.Rows
local macro_rules | `(tactic| o_head $H) => `(tactic| (
 refine holds_open (r := PySem.Challenge.rw_cutstree_k08_pieces.row) (q := Q8.qv) (loose := []) (Xt := fun s => xlAt Q8.qv [] s && recOk (RowW.records (OpenRow.toRowW PySem.Challenge.rw_cutstree_k08_pieces.row)) s) (XP := XL Q8.qv []) (Yf := Hook.obs $H) (Ya := Hook.val $H) (YP := Hook.says $H) (N := 3552) ?hl (Hook.of $H) (Hook.keeps $H) (fun s e => xl_of s (Bool.and_eq_true_iff.mp e).1) XL.keeps (by rfl) (by rfl) (by rfl) (fun s e => recFacts_of (Bool.and_eq_true_iff.mp e).2) (by rfl) (by first | assumption | decide +kernel) (by decide +kernel) ⟨rfl, rfl, rfl, rfl, rfl, by decide +kernel⟩ ?hw ?hc
 (case hl => intro w; kernel_rfl)))
open_top Q8.k_top for PySem.Challenge.rw_cutstree_k08_pieces
end
section
set_option Elab.async false
set_option linter.all false
set_option maxRecDepth 100000
namespace L2
open PySem PySem.Spec PyProof.Rows
abbrev Key := Sum Int Str
def nV : Key -> Value -> Bool
 | .inl k, v => Value.isInt k v
 | .inr x, v => Value.isStrOf x v
def aAj (w : World) : Key -> Int
 | .inl k => hashInt k
 | .inr x => hashStr w x
theorem bN : ∀ {k : Key} {v : Value}, nV k v = true -> (∃ i t, k = Sum.inl i /\ v = Value.int i t) \/ (∃ x t, k = Sum.inr x /\ v = Value.str x t)
 | .inl i, v, h => by
  obtain ⟨t, e⟩ := Value.isInt_shape (k := i) (v := v) h
  exact .inl ⟨i, t, rfl, e⟩
 | .inr x, v, h => by
  obtain ⟨t, e⟩ := Value.isStrOf_shape (x := x) (v := v) h
  exact .inr ⟨x, t, rfl, e⟩
theorem CL (i : Int) (t : Tok) : nV (.inl i) (.int i t) = true := by simp [nV, Value.isInt]
theorem CM (x : Str) (t : Tok) : nV (.inr x) (.str x t) = true := by simp [nV, Value.isStrOf]
theorem RI (a b : Int) : decide ((Sum.inl a : Key) = Sum.inl b) = (a == b) := by
 by_cases e : a = b
 · subst e; simp
 · have h : ¬ (Sum.inl a : Key) = Sum.inl b := fun q => e (Sum.inl.inj q)
   rw [decide_eq_false h]
   exact (beq_eq_false_iff_ne.mpr e).symm
theorem VB (a b : Str) : decide ((Sum.inr a : Key) = Sum.inr b) = decide (a = b) := by
 by_cases e : a = b
 · subst e; simp
 · have h : ¬ (Sum.inr a : Key) = Sum.inr b := fun q => e (Sum.inr.inj q)
   rw [decide_eq_false h, decide_eq_false e]
theorem VH (a : Int) (b : Str) : decide ((Sum.inl a : Key) = Sum.inr b) = false := decide_eq_false (fun q => nomatch q)
theorem UW (a : Str) (b : Int) : decide ((Sum.inr a : Key) = Sum.inl b) = false := decide_eq_false (fun q => nomatch q)
def bV (prog : Program) (w : World) : PySem.KeyKind prog w Key where
 is := nV
 hash := aAj w
 inj := fun v a b ha hb => by
  rcases bN ha with ⟨i, t, rfl, rfl⟩ | ⟨x, t, rfl, rfl⟩
  · rcases bN hb with ⟨j, u, rfl, e⟩ | ⟨y, u, rfl, e⟩
    · injection e with e1 _; rw [e1]
    · exact nomatch e
  · rcases bN hb with ⟨j, u, rfl, e⟩ | ⟨y, u, rfl, e⟩
    · exact nomatch e
    · injection e with e1 _; rw [e1]
 byValue := fun k v h => by
  rcases bN h with ⟨i, t, rfl, rfl⟩ | ⟨x, t, rfl, rfl⟩ <;> rfl
 pyHash := fun hv h => by
  rcases bN hv with ⟨i, t, rfl, rfl⟩ | ⟨x, t, rfl, rfl⟩
  · exact wpAny_pyHash_int h
  · exact wpAny_pyHash_str h
 eqBool := fun hu hv h => by
  rcases bN hu with ⟨i, t, rfl, rfl⟩ | ⟨x, t, rfl, rfl⟩
  · rcases bN hv with ⟨j, u, rfl, rfl⟩ | ⟨y, u, rfl, rfl⟩
    · rw [RI] at h; exact wpAny_eqBool_int h
    · rw [VH] at h; exact SeqAt.EqAt.int_str i t y u _ _ _ _ h
  · rcases bN hv with ⟨j, u, rfl, rfl⟩ | ⟨y, u, rfl, rfl⟩
    · rw [UW] at h; exact SeqAt.EqAt.str_int x t j u _ _ _ _ h
    · rw [VB] at h; exact wpAny_eqBool_str h
 «strs» := fun k x t v h => by
  rcases bN h with ⟨i, u, rfl, e⟩ | ⟨y, u, rfl, e⟩
  · exact nomatch e
  · injection e with e1 _
    subst e1
    cases v <;> rfl
theorem xV (prog : Program) (w : World) (k : Key) (v : Value) : (bV prog w).is k v = nV k v := rfl
theorem xJ (prog : Program) (w : World) (i : Int) (t : Tok) : (bV prog w).is (.inl i) (.int i t) = true := CL i t
theorem xR (prog : Program) (w : World) (x : Str) (t : Tok) : (bV prog w).is (.inr x) (.str x t) = true := CM x t
end L2
namespace L2
open PySem PySem.Spec PyProof.Rows
inductive V where
 | non | bl (b : Bool) | int (i : Int) | str (x : Str) | byt (b : Array UInt8) | flt (b : UInt64) | ref (a : Addr) | ty (n : String)
 deriving DecidableEq
def RelV : V -> Value -> Prop
 | .non, u => u = Value.none
 | .bl b, u => u = Value.bool b
 | .int i, u => ∃ t, u = Value.int i t
 | .str x, u => ∃ t, u = Value.str x t
 | .byt b, u => ∃ t, u = Value.bytes b t
 | .flt b, u => ∃ t, u = Value.float b t
 | .ref a, u => u = Value.ref a
 | .ty n, u => u = Value.type n
abbrev Vals : List V -> List Value -> Prop := Paired RelV
theorem Vals.length {xs : List V} {us : List Value} (r : Vals xs us) : xs.length = us.length := Paired.length r
theorem Vals.get : ∀ {xs : List V} {us : List Value} {i : Nat} {x : V}, Vals xs us -> xs[i]? = some x -> ∃ u, us[i]? = some u /\ RelV x u
 | _, _, _, _, .nil, e => by simp at e
 | _, _, 0, _, .cons r _, e => by simp at e; subst e; exact ⟨_, rfl, r⟩
 | _, _, i + 1, x, .cons _ t, e => by
  obtain ⟨u, h1, h2⟩ := Vals.get (i := i) (x := x) t (by simpa using e)
  exact ⟨u, by simpa using h1, h2⟩
theorem Vals.set {x : V} {u : Value} (r : RelV x u) : ∀ {xs : List V} {us : List Value} (i : Nat), Vals xs us -> Vals (xs.set i x) (us.set i u)
 | _, _, _, .nil => .nil
 | _, _, 0, .cons _ t => .cons r t
 | _, _, i + 1, .cons q t => .cons q (Vals.set r i t)
theorem Vals.append : ∀ {xs ys : List V} {us ws : List Value}, Vals xs us -> Vals ys ws -> Vals (xs ++ ys) (us ++ ws)
 | _, _, _, _, .nil, s => s
 | _, _, _, _, .cons r t, s => .cons r (Vals.append t s)
theorem Vals.take : ∀ {xs : List V} {us : List Value} (n : Nat), Vals xs us -> Vals (xs.take n) (us.take n)
 | _, _, 0, _ => .nil
 | _, _, _ + 1, .nil => .nil
 | _, _, n + 1, .cons r t => .cons r (Vals.take n t)
theorem Vals.drop : ∀ {xs : List V} {us : List Value} (n : Nat), Vals xs us -> Vals (xs.drop n) (us.drop n)
 | _, _, 0, r => r
 | _, _, _ + 1, .nil => .nil
 | _, _, n + 1, .cons _ t => Vals.drop n t
def RelO : Option V -> Option Value -> Prop
 | some v, some u => RelV v u
 | none, none => True
 | _, _ => False
def KV {κ : Type} : List (κ × V) -> List (κ × Value) -> Prop := Paired fun (p : κ × V) (q : κ × Value) => p.1 = q.1 /\ RelV p.2 q.2
def kV : Key -> V
 | .inl i => .int i
 | .inr x => .str x
inductive HO where
 | lst (xs : List V)
 | tup (xs : List V)
 | dK (kvs : List (Key × V)) | dT (kvs : List (List Key × V))
 | set (S : Int -> Bool) (n : Nat)
 | ins (C dx : Addr) (fs : List (Str × V))
 | own (x : Addr)
 | xd (fs : List (Str × V))
 | met (f x : Addr)
 | rng (lo hi : Int)
 | frz (o : Obj) (u : HO)
 | tbl (ps : Array Value)
 | ext (φ : Heap -> Prop)
abbrev Hp := Addr -> Option HO
def upd (H : Hp) (a : Addr) (o : HO) : Hp := fun b => if b = a then some o else H b
theorem aR {H : Hp} {a : Addr} {o : HO} : upd H a o a = some o := by unfold upd; rw [if_pos rfl]
theorem aL {H : Hp} {a b : Addr} {o : HO} (h : b ≠ a) : upd H a o b = H b := by unfold upd; rw [if_neg h]
theorem QE {H : Hp} {a b : Addr} {o u : HO} (h : H a = some o) (h' : H b = some u) (d : o ≠ u) : a ≠ b := by
 intro e; subst e; rw [h] at h'; exact d (Option.some.inj h')
theorem aO {H : Hp} {a b : Addr} {o : HO} (h : H a = some o) (h' : H b = none) : a ≠ b := by
 intro e; subst e; rw [h] at h'; cases h'
section
variable (P : Program) (w : World)
def ObjOk (H : Hp) (h : Heap) (a : Addr) : HO -> Prop
 | .lst xs => xs.length <= sizeLine /\ ∃ (its : List Value) (n : Nat), Vals xs its /\ h.get? a = some { cls := .type "list", data := .seq its.toArray n }
 | .tup xs => xs.length <= sizeLine /\ ∃ its : List Value, Vals xs its /\ IsTup h a its.toArray
 | .dK kvs => kvs.length <= sizeLine /\ (a == sysModules) = false /\ ∃ vs, KV kvs vs /\ h.DictOf (bV P w) a vs
 | .dT kvs => kvs.length <= sizeLine /\ (a == sysModules) = false /\ ∃ xs : List (List Key × Addr × Value),
  Paired (fun (p : List Key × V) (q : List Key × Addr × Value) => p.1 = q.1 /\ H q.2.1 = some (.tup (p.1.map kV)) /\ RelV p.2 q.2.2) kvs xs /\
  ∃ o es ep, h.get? a = some o /\ o.ExactDict /\ o.data = .dict es ep /\ es.toList = xs.map (entryOfKey (tupleKind (bV P w))) /\ (xs.map (·.1)).Nodup
 | .set S n => h.SetOf (intKind P w) a S n
 | .ins C dx fs => H dx = some (.own a) /\ fs.length <= 1000 /\ dx ≠ a /\ h.get? a = some (PySem.W.instObj C dx) /\
  ∃ mA, h.Ns1 dx mA /\ (∀ f, RelO (fs.lookup f) (mA f)) /\ PySem.Within mA (fs.map (·.1))
 | .own _ => ∃ o, h.get? a = some o
 | .xd fs => ∃ mA, h.Ns1 a mA /\ ∀ f, RelO (fs.lookup f) (mA f)
 | .rng lo hi => ∃ t u v, h.get? a = some { cls := .type "range", data := .fields #[.int lo t, .int hi u, .int 1 v] }
 | .frz o u => h.get? a = some o /\ ObjOk H h a u
 | .tbl ps => h.get? a = some { cls := .none, data := .fields ps }
 | .met f x => h.get? a = some (PySem.W.methodObj (.ref f) (.ref x))
 | .ext φ => φ h /\ (∃ o, h.get? a = some o) /\ ∀ h1 h2 : Heap, φ h1 -> (∀ o, h1.get? a = some o -> h2.get? a = some o) -> φ h2
def HOk (H : Hp) (h : Heap) : Prop := ∀ a o, H a = some o -> ObjOk P w H h a o
end
section
variable {P : Program} {w : World} {H H' : Hp} {h h' : Heap} {a : Addr} {o : HO}
theorem ObjOk.lt (x : ObjOk P w H h a o) : a < h.objs.size := by
 cases o with
 | lst xs => obtain ⟨_, _, _, _, e⟩ := x; exact Heap.lt_size e
 | tup xs => obtain ⟨_, _, _, p⟩ := x; exact p.lt
 | dK kvs => obtain ⟨_, _, _, _, o, _, _, e, _⟩ := x; exact Heap.lt_size e
 | dT kvs => obtain ⟨_, _, _, _, o, _, _, e, _⟩ := x; exact Heap.lt_size e
 | set S n => obtain ⟨o, _, _, _, e, _⟩ := x; exact Heap.lt_size e
 | ins C dx fs => obtain ⟨_, _, _, e, _⟩ := x; exact Heap.lt_size e
 | own y => obtain ⟨_, e⟩ := x; exact Heap.lt_size e
 | xd fs => obtain ⟨_, ⟨_, _, _, e, _⟩, _⟩ := x; exact Heap.lt_size e
 | rng lo hi => obtain ⟨_, _, _, e⟩ := x; exact Heap.lt_size e
 | frz ob u => obtain ⟨e, _⟩ := x; exact Heap.lt_size e
 | tbl ps => exact Heap.lt_size (show h.get? a = some _ from x)
 | met f y => exact Heap.lt_size (show h.get? a = some _ from x)
 | ext φ => obtain ⟨_, ⟨_, e⟩, _⟩ := x; exact Heap.lt_size e
theorem Paired.mapP {α β : Type} {F G : α -> β -> Prop} : ∀ {l₁ : List α} {l₂ : List β}, Paired F l₁ l₂ -> (∀ a b, F a b -> G a b) -> Paired G l₁ l₂
 | _, _, .nil, _ => .nil
 | _, _, .cons r t, f => .cons (f _ _ r) (Paired.mapP t f)
theorem ObjOk.stay (x : ObjOk P w H h a o) (k : ∀ b u, (b = a \/ H b = some (.own a)) -> h.get? b = some u -> h'.get? b = some u)
 (ho : ∀ b, H b = some (.own a) -> H' b = some (.own a)) (ht : ∀ b xs, H b = some (.tup xs) -> H' b = some (.tup xs)) : ObjOk P w H' h' a o := by
 induction o with
 | lst xs => obtain ⟨z, its, n, r, e⟩ := x; exact ⟨z, its, n, r, k _ _ (.inl rfl) e⟩
 | tup xs => obtain ⟨z, its, r, ob, e, c⟩ := x; exact ⟨z, its, r, ob, k _ _ (.inl rfl) e, c⟩
 | dK kvs => obtain ⟨z, y, vs, r, ob, es, ep, e, c⟩ := x; exact ⟨z, y, vs, r, ob, es, ep, k _ _ (.inl rfl) e, c⟩
 | dT kvs =>
  obtain ⟨z, y, xs, r, ob, es, ep, e, c⟩ := x
  exact ⟨z, y, xs, Paired.mapP r fun p q z => ⟨z.1, ht _ _ z.2.1, z.2.2⟩, ob, es, ep, k _ _ (.inl rfl) e, c⟩
 | set S n => obtain ⟨ob, es, ep, t, e, c⟩ := x; exact ⟨ob, es, ep, t, k _ _ (.inl rfl) e, c⟩
 | ins C dx fs =>
  obtain ⟨d, z, ne, e, mA, ⟨od, es, ep, e2, c⟩, r⟩ := x
  exact ⟨ho _ d, z, ne, k _ _ (.inl rfl) e, mA, ⟨od, es, ep, k _ _ (.inr d) e2, c⟩, r⟩
 | own y => obtain ⟨ob, e⟩ := x; exact ⟨ob, k _ _ (.inl rfl) e⟩
 | xd fs => obtain ⟨mA, ⟨od, es, ep, e, c⟩, r⟩ := x; exact ⟨mA, ⟨od, es, ep, k _ _ (.inl rfl) e, c⟩, r⟩
 | rng lo hi => obtain ⟨t, u, v, e⟩ := x; exact ⟨t, u, v, k _ _ (.inl rfl) e⟩
 | frz ob u ih => obtain ⟨e, q⟩ := x; exact ⟨k _ _ (.inl rfl) e, ih q⟩
 | tbl ps =>
  have e : h.get? a = some { cls := .none, data := .fields ps } := x
  show h'.get? a = some { cls := .none, data := .fields ps }
  exact k a _ (.inl rfl) e
 | met f y =>
  have e : h.get? a = some (PySem.W.methodObj (.ref f) (.ref y)) := x
  show h'.get? a = some (PySem.W.methodObj (.ref f) (.ref y))
  exact k a _ (.inl rfl) e
 | ext φ => obtain ⟨p, ⟨o, e⟩, st⟩ := x; exact ⟨st _ _ p fun o q => k _ _ (.inl rfl) q, ⟨o, k _ _ (.inl rfl) e⟩, st⟩
theorem HOk.lt (x : HOk P w H h) (e : H a = some o) : a < h.objs.size := (x a o e).lt
theorem HOk.fresh (x : HOk P w H h) (e : h.objs.size <= a) : H a = none := by
 cases q : H a with
 | none => rfl
 | some u => exact absurd (Nat.lt_of_lt_of_le (x.lt q) e) (Nat.lt_irrefl _)
theorem HOk.kept (x : HOk P w H h) (k : ∀ b u, h.get? b = some u -> h'.get? b = some u) : HOk P w H h' := fun a o e =>
 (x a o e).stay (fun b u _ q => k b u q) (fun _ q => q) fun _ _ q => q
theorem HOk.laid (x : HOk P w H h) (k : ∀ b u, h.get? b = some u -> h'.get? b = some u) (hp : h.objs.size <= a) (new : ObjOk P w (upd H a o) h' a o) : HOk P w (upd H a o) h' := fun b u e => by
 have hn := x.fresh hp
 by_cases hb : b = a
 · subst hb; rw [aR] at e; cases e; exact new
 · rw [aL hb] at e
   exact (x b u e).stay (fun c v _ q => k c v q) (fun c q => by rw [aL (aO q hn)]; exact q) fun c xs q => by rw [aL (aO q hn)]; exact q
end
def Rd (H : Hp) (a : Addr) (u : HO) : Prop := H a = some u \/ ∃ o, H a = some (.frz o u)
theorem Rd.ok {P : Program} {w : World} {H : Hp} {h : Heap} {a : Addr} {u : HO} (r : Rd H a u) (x : HOk P w H h) : ObjOk P w H h a u := by
 rcases r with r | ⟨o, r⟩
 · exact x a u r
 · obtain ⟨_, q⟩ := x a _ r
   exact q
def Mut : Option HO -> Prop
 | some (.lst _) => True
 | some (.dK _) => True
 | some (.dT _) => True
 | some (.set _ _) => True
 | some (.ins _ _ _) => True
 | some (.ext _) => True
 | _ => False
section
variable {P : Program} {w : World} {H : Hp} {h h' : Heap} {x e : Addr} {o' : HO}
theorem HOk.write (ok : HOk P w H h) (mu : Mut (H x)) (he : e = x \/ H e = some (.own x)) (k : ∀ b u, b ≠ e -> h.get? b = some u -> h'.get? b = some u) (heo : ∃ u, h'.get? e = some u)
 (new : ObjOk P w (upd H x o') h' x o') : HOk P w (upd H x o') h' := fun b u q => by
 have nown : ∀ c y, H c = some (.own y) -> c ≠ x := fun c y r z => by subst z; rw [r] at mu; exact mu
 have ntup : ∀ c xs, H c = some (.tup xs) -> c ≠ x := fun c xs r z => by subst z; rw [r] at mu; exact mu
 by_cases hb : b = x
 · subst hb; rw [aR] at q; cases q; exact new
 · rw [aL hb] at q
   by_cases hbe : b = e
   · have q' : H b = some (.own x) := by
      rcases he with z | z
      · exact absurd (hbe.trans z) hb
      · rw [hbe]; exact z
     rw [q] at q'; cases q'
     obtain ⟨v, hv⟩ := heo
     exact ⟨v, by rw [hbe]; exact hv⟩
   · refine (ok b u q).stay (fun c v hc r => k c v ?_ r) (fun c r => by rw [aL (nown c b r)]; exact r) fun c xs r => by rw [aL (ntup c xs r)]; exact r
     rcases hc with rfl | hc
     · exact hbe
     · rintro rfl
       rcases he with z | z
       · exact nown c b hc z
       · rw [hc] at z; cases z; exact hb rfl
end
structure Un (fs ex : List Addr) (H H' : Hp) (h h' : Heap) : Prop where
 keep : ∀ b o, h.get? b = some o -> H b = none -> b ∉ fs -> b ∉ ex -> h'.get? b = some o
 slot : ∀ b o, h.get? b = some o -> H b = none -> b ∈ fs -> b ∉ ex -> ∃ sl, h'.get? b = some { o with slots := sl }
 free : ∀ b o, h.get? b = some o -> H b = none -> b ∉ ex -> H' b = none
 there : ∀ b o, h.get? b = some o -> b ∉ ex -> ∃ o', h'.get? b = some o'
 tups : ∀ b xs, H b = some (.tup xs) -> H' b = some (.tup xs)
 frzs : ∀ b o u, H b = some (.frz o u) -> H' b = some (.frz o u)
 tbls : ∀ b ps, H b = some (.tbl ps) -> ∃ more, H' b = some (.tbl (ps ++ more))
section
variable {fs fs' ex ex' : List Addr} {H H1 H2 : Hp} {h h1 h2 h' : Heap} {a x e : Addr} {o : HO}
theorem Un.any (u : Un fs ex H H1 h h1) {b : Addr} {ob : Obj} (q : h.get? b = some ob) (n : H b = none) (hx : b ∉ ex) : ∃ sl, h1.get? b = some { ob with slots := sl } := by
 by_cases hb : b ∈ fs
 · exact u.slot b ob q n hb hx
 · exact ⟨ob.slots, u.keep b ob q n hb hx⟩
theorem Un.kept (k : ∀ b u, h.get? b = some u -> h'.get? b = some u) : Un fs ex H H h h' :=
 ⟨fun b ob q _ _ _ => k b ob q, fun b ob q _ _ _ => ⟨ob.slots, k b ob q⟩, fun _ _ _ n _ => n, fun b ob q _ => ⟨ob, k b ob q⟩, fun _ _ q => q, fun _ _ _ q => q, fun _ ps q => ⟨#[], by rw [q]; simp⟩⟩
theorem Un.refl : Un fs ex H H h h := Un.kept fun _ _ q => q
theorem Un.laid (k : ∀ b u, h.get? b = some u -> h'.get? b = some u) (hp : h.objs.size <= a) (hn : H a = none) : Un fs ex H (upd H a o) h h' where
 keep := fun b u q _ _ _ => k b u q
 slot := fun b u q _ _ _ => ⟨u.slots, k b u q⟩
 free := fun b u q n _ => by rw [aL (Nat.ne_of_lt (Nat.lt_of_lt_of_le (Heap.lt_size q) hp))]; exact n
 there := fun b u q _ => ⟨u, k b u q⟩
 tups := fun b xs q => by rw [aL (aO q hn)]; exact q
 frzs := fun b u xs q => by rw [aL (aO q hn)]; exact q
 tbls := fun b ps q => ⟨#[], by rw [aL (aO q hn), q]; simp⟩
theorem Un.write (mu : Mut (H x)) (he : e = x \/ H e = some (.own x)) (k : ∀ b u, b ≠ e -> h.get? b = some u -> h'.get? b = some u) (heo : ∃ u, h'.get? e = some u) : Un fs ex H (upd H x o) h h' := by
 have hx : ∀ b, H b = none -> b ≠ x := fun b n z => by subst z; rw [n] at mu; exact mu
 have hb : ∀ b, H b = none -> b ≠ e := fun b n z => by
  subst z
  rcases he with r | r
  · exact hx b n r
  · rw [n] at r; cases r
 have hm : ∀ b u, H b = some u -> ¬ Mut (some u) -> b ≠ x := fun b u q nm z => by subst z; rw [q] at mu; exact nm mu
 refine ⟨fun b u q n _ _ => k b u (hb b n) q, fun b u q n _ _ => ⟨u.slots, k b u (hb b n) q⟩, fun b u q n _ => by rw [aL (hx b n)]; exact n, fun b u q _ => ?_,
  fun b xs q => by rw [aL (hm b _ q fun z => z)]; exact q, fun b u xs q => by rw [aL (hm b _ q fun z => z)]; exact q, fun b ps q => ⟨#[], by rw [aL (hm b _ q fun z => z), q]; simp⟩⟩
 by_cases hbe : b = e
 · subst hbe; exact heo
 · exact ⟨u, k b u hbe q⟩
end
def trk (h : Heap) (H : Hp) : List Addr := (List.range h.objs.size).filter fun a => (H a).isSome
def tU (h : Heap) (H : Hp) : Heap := PySem.W.hideAll h (trk h H)
theorem CG (h : Heap) (H : Hp) : (tU h H).objs.size = h.objs.size := PySem.W.hideAll_size _ _
theorem JW {h : Heap} {H : Hp} {b : Addr} {o : Obj} (e : h.get? b = some o) (n : H b = none) : (tU h H).get? b = some o :=
 PySem.W.hideAll_get _ e fun hm => by
  have q : (H b).isSome = true := (List.mem_filter.mp hm).2
  rw [n] at q; simp at q
theorem LX {h : Heap} {H : Hp} {b : Addr} {o : Obj} (e : (tU h H).get? b = some o) : h.get? b = some o /\ H b = none := by
 have e' : h.get? b = some o := PySem.W.of_hideAll (trk h H) e
 refine ⟨e', ?_⟩
 cases q : H b with
 | none => rfl
 | some x =>
  have hm : b ∈ trk h H := List.mem_filter.mpr ⟨List.mem_range.mpr (Heap.lt_size e'), by simp [q]⟩
  have z : (tU h H).get? b = none := PySem.W.hideAll_none (trk h H) hm
  rw [z] at e; cases e
def gG (g h : Heap) (L : Addr) : List (Addr × Obj) := (List.range h.objs.size).filterMap fun a => if a = L \/ (g.get? a).isSome = true then none else (h.get? a).map fun o => (a, o)
theorem fV {g h : Heap} {L a : Addr} {o : Obj} (h1 : a ≠ L) (h2 : g.get? a = none) (h3 : h.get? a = some o) : (a, o) ∈ gG g h L :=
 List.mem_filterMap.mpr ⟨a, List.mem_range.mpr (Heap.lt_size h3), by simp [h1, h2, h3]⟩
theorem qJ {g h : Heap} {L : Addr} {p : Addr × Obj} (hp : p ∈ gG g h L) : p.1 ≠ L /\ g.get? p.1 = none /\ h.get? p.1 = some p.2 := by
 obtain ⟨b, _, e⟩ := List.mem_filterMap.mp hp
 split at e
 · cases e
 · rename_i hn
   cases q : h.get? b with
   | none => rw [q] at e; simp at e
   | some u =>
    rw [q] at e
    simp only [Option.map_some, Option.some.injEq] at e
    subst e
    refine ⟨fun z => hn (.inl z), ?_, q⟩
    show g.get? b = none
    cases r : g.get? b with
    | none => rfl
    | some v => exact (hn (.inr (by simp [r]))).elim
def rest (g h : Heap) (L d : Addr) : List (Addr × Obj) := (gG g h L).filter fun p => decide (p.1 ≠ d)
theorem xD {g h : Heap} {L : Addr} : News g L h (gG g h L) := fun p hp => let ⟨a, b, c⟩ := qJ hp; ⟨c, a, b⟩
end L2
namespace L2
open PySem PySem.Spec PyProof.Rows
structure Mod (K : PySem.W.Frag) (mg : Str -> Option Value) (base : Heap) : Prop where
 kin : K.In base
 glob : base.Ns mainGlobals mg
 blt : ∃ mb, base.Ns builtinsNs mb /\ ∀ x : Str, x ≠ "__name__" -> mb x = bootBuiltins x
 nolimit : base.NoLimit
 sysm : ∃ o es ep, base.get? sysModules = some o /\ o.data = .dict es ep
structure Cx where
 prog : Program
 w : World
 K : PySem.W.Frag
 mg : Str -> Option Value
 base : Heap
 A : Around
 N : List Str
 s₀ : Shared
 H₀ : Hp
 env : Env
 outer : List Env
 stack : List Env
 ex : List Addr
 fn : Str -> Bool
 calm : Bool
 pn : List (Addr × Obj)
 xe : Value -> Shared -> Prop
def frs (l : List Env) : List Addr := l.filterMap (·.frame)
abbrev Cx.fs (X : Cx) : List Addr := frs X.outer
def Vis (sc : Scope) (x : Str) : Prop := sc.names.lookup x = some .local \/ sc.names.lookup x = some .cell \/ sc.names.lookup x = some .free
def Loc (sc : Scope) (x : Str) : Prop := sc.names.lookup x = some .local \/ sc.names.lookup x = some .cell
def Look (env : Env) (h : Heap) (m : Str -> Option Value) (x : Str) (u : Value) : Prop :=
 (env.kindOf x = some .local /\ m x = some u) \/ ((env.kindOf x = some .cell \/ env.kindOf x = some .free) /\ ∃ c, env.cells.lookup x = some c /\ h.IsCell c (some u))
structure Cx.Ok (X : Cx) : Prop where
 mod : Mod X.K X.mg X.base
 kind : X.env.scope.kind = .function
 glob : X.env.globals = mainGlobals
 blt : X.env.builtins = builtinsNs
 above : X.s₀.heap.objs.size <= X.env.locals
 inj : ∀ x y c, X.env.cells.lookup x = some c -> X.env.cells.lookup y = some c -> x = y
 has : ∀ x, (X.env.kindOf x = some .cell \/ X.env.kindOf x = some .free) -> ∃ c, X.env.cells.lookup x = some c
 cab : ∀ x c, X.fn x = true -> X.env.cells.lookup x = some c -> X.s₀.heap.objs.size <= c
 hd : X.calm = true -> X.A.handled = none
 frames : X.A.frames = some X.stack
 stk : X.stack = X.outer \/ (X.stack = X.env :: X.outer /\ X.env.frame = some X.env.locals)
 exf : ∀ b ∈ X.ex, b ≠ X.env.locals /\ ∀ x c, X.env.cells.lookup x = some c -> c ≠ b
 bs : ∀ b o, X.base.get? b = some o -> X.s₀.heap.get? b = some o /\ X.H₀ b = none
 bsz : X.base.objs.size <= X.s₀.heap.objs.size
 noex : ∀ b o, X.base.get? b = some o -> b ∉ X.ex
 exfs : ∀ b ∈ X.ex, b ∉ X.fs
 funs : X.s₀.heap.FunFrames X.base X.outer
 frf : ∀ b ∈ X.fs, X.H₀ b = none
structure Inv (X : Cx) (pins : List (Addr × Obj)) (σ : List (Option V)) (H : Hp) (s : Shared) : Prop where
 ok : X.Ok
 os : s.os = X.s₀.os
 bare : AllBare s.gens
 base : Un X.fs X.ex X.H₀ H X.s₀.heap s.heap
 loc : ∃ m, s.heap.Ns X.env.locals m /\ ∀ (i : Nat) (x : Str) (v : V), X.N[i]? = some x -> σ[i]? = some (some v) -> Vis X.env.scope x -> ∃ u, RelV v u /\ Look X.env s.heap m x u
 cell : ∀ x c, X.env.cells.lookup x = some c -> ∃ v, s.heap.IsCell c v
 free : H X.env.locals = none
 freeC : ∀ x c, X.env.cells.lookup x = some c -> H c = none
 pin : ∀ p ∈ X.pn ++ pins, s.heap.get? p.1 = some p.2 /\ H p.1 = none /\ p.1 ≠ X.env.locals /\ p.1 ∉ X.fs /\ ∀ v, p.2.data ≠ .cell v
 hok : HOk X.prog X.w H s.heap
 len : σ.length = X.N.length
section
variable {X : Cx} {pins : List (Addr × Obj)} {σ : List (Option V)} {H H' : Hp} {s : Shared} {h' : Heap}
theorem Cx.Ok.nofr (ok : X.Ok) {b : Addr} {o : Obj} (e : X.base.get? b = some o) : b ∉ X.fs := fun hb => by
 have := (ok.funs.mem hb).1
 rw [e] at this; cases this
theorem Inv.bs (I : Inv X pins σ H s) : ∀ b o, X.base.get? b = some o -> s.heap.get? b = some o /\ H b = none := fun b o e =>
 ⟨I.base.keep b o (I.ok.bs b o e).1 (I.ok.bs b o e).2 (I.ok.nofr e) (I.ok.noex b o e), I.base.free b o (I.ok.bs b o e).1 (I.ok.bs b o e).2 (I.ok.noex b o e)⟩
theorem Inv.bk (I : Inv X pins σ H s) : ∀ b o, X.base.get? b = some o -> s.heap.get? b = some o := fun b o e => (I.bs b o e).1
theorem Inv.mod (I : Inv X pins σ H s) : Mod X.K X.mg X.base := I.ok.mod
theorem Inv.kIn (I : Inv X pins σ H s) : X.K.In s.heap := I.ok.mod.kin.keeps I.bk
theorem Inv.fr (I : Inv X pins σ H s) : ∃ m, Fr X.base X.env.locals s.heap m :=
 let ⟨m, hn, _⟩ := I.loc
 ⟨m, hn, I.bk, Nat.le_trans I.ok.bsz I.ok.above⟩
theorem Inv.lt (I : Inv X pins σ H s) : X.env.locals < s.heap.objs.size := let ⟨_, hn, _⟩ := I.loc; hn.lt
theorem Inv.sz (I : Inv X pins σ H s) : X.s₀.heap.objs.size <= s.heap.objs.size := Nat.le_trans I.ok.above (Nat.le_of_lt I.lt)
theorem Inv.nofs (I : Inv X pins σ H s) {a : Addr} (h : s.heap.objs.size <= a) : a ∉ X.fs := fun hb => by
 obtain ⟨_, o, ho, _⟩ := I.ok.funs.mem hb
 exact absurd (Nat.lt_of_lt_of_le (Heap.lt_size ho) (Nat.le_trans I.sz h)) (Nat.lt_irrefl _)
theorem Inv.cne (I : Inv X pins σ H s) : ∀ x c, X.env.cells.lookup x = some c -> c ≠ X.env.locals := fun x c e z => by
 obtain ⟨v, o, ho, hd⟩ := I.cell x c e
 obtain ⟨m, ⟨o', es, ep, ho', hd', _⟩, _⟩ := I.loc
 rw [z, ho'] at ho; cases ho; rw [hd'] at hd; cases hd
theorem Inv.funs (I : Inv X pins σ H s) : s.heap.FunFrames X.base X.outer := by
 have all : ∀ (l : List Env), (∀ b ∈ frs l, b ∈ X.fs) -> X.s₀.heap.FunFrames X.base l -> s.heap.FunFrames X.base l := by
  intro l
  induction l with
  | nil => intro _ _; trivial
  | cons env r ih =>
   intro hs hl
   obtain ⟨hk, ⟨L, o, hf, hn, ho, hd⟩, hr⟩ := hl
   have hL : L ∈ X.fs := hs L (by unfold frs; rw [List.filterMap_cons, hf]; exact List.mem_cons_self)
   obtain ⟨sl, e⟩ := I.base.slot L o ho (I.ok.frf L hL) hL fun z => I.ok.exfs L z hL
   exact ⟨hk, ⟨L, _, hf, hn, e, hd⟩, ih (fun b hb => hs b (by unfold frs; rw [List.filterMap_cons, hf]; exact List.mem_cons_of_mem _ hb)) hr⟩
 exact all X.outer (fun _ hb => hb) I.ok.funs
theorem Inv.stack (I : Inv X pins σ H s) : s.heap.FunFrames X.base X.stack := by
 rcases I.ok.stk with e | ⟨e, hf⟩
 · rw [e]; exact I.funs
 · rw [e]
   obtain ⟨m, hn, _⟩ := I.loc
   refine .cons (by rw [I.ok.kind]; decide) hf hn ?_ I.funs
   exact Heap.get?_none_of_le (Nat.le_trans I.ok.bsz I.ok.above)
theorem Inv.stkSub (I : Inv X pins σ H s) : ∀ b ∈ frs X.stack, b ∈ X.env.locals :: X.fs := fun b hb => by
 rcases I.ok.stk with e | ⟨e, hf⟩
 · rw [e] at hb; exact List.mem_cons_of_mem _ hb
 · rw [e] at hb
   unfold frs at hb
   rw [List.filterMap_cons, hf] at hb
   exact hb
theorem Inv.stkFree (I : Inv X pins σ H s) : ∀ b ∈ frs X.stack, H b = none := fun b hb => by
 rcases List.mem_cons.mp (I.stkSub b hb) with e | hb
 · rw [e]; exact I.free
 · obtain ⟨_, o, ho, _⟩ := I.ok.funs.mem hb
   exact I.base.free b o ho (I.ok.frf b hb) fun z => I.ok.exfs b z hb
theorem Inv.step {g' : Array GenState} {t' : Nat} {d' : Drawn} {ch : List Addr} (I : Inv X pins σ H s)
 (hch : ∀ b ∈ ch, (b ∈ X.ex \/ X.s₀.heap.objs.size <= b) /\ b ≠ X.env.locals /\ (∀ x c, X.env.cells.lookup x = some c -> c ≠ b) /\ ∀ p ∈ X.pn ++ pins, p.1 ≠ b)
 (keep : ∀ b o, b ≠ X.env.locals -> b ∉ X.fs -> b ∉ ch -> s.heap.get? b = some o -> H b = none -> h'.get? b = some o)
 (slot : ∀ b o, b ≠ X.env.locals -> b ∈ X.fs -> b ∉ ch -> s.heap.get? b = some o -> H b = none -> ∃ sl, h'.get? b = some { o with slots := sl }) (free : ∀ b o, b ∉ ch -> s.heap.get? b = some o -> H b = none -> H' b = none)
 (there : ∀ b o, b ∉ ch -> s.heap.get? b = some o -> ∃ o', h'.get? b = some o')
 (tups : ∀ b xs, H b = some (.tup xs) -> H' b = some (.tup xs)) (frzs : ∀ b o u, H b = some (.frz o u) -> H' b = some (.frz o u)) (tbls : ∀ b ps, H b = some (.tbl ps) -> ∃ more, H' b = some (.tbl (ps ++ more)))
 (ns : ∀ m, s.heap.Ns X.env.locals m -> h'.Ns X.env.locals m) (hok : HOk X.prog X.w H' h') (hg : AllBare g') :
 Inv X pins σ H' { s with heap := h', gens := g', drawn := d', toks := t' } := by
 have neL : ∀ b o, X.s₀.heap.get? b = some o -> b ≠ X.env.locals := fun b o e => Nat.ne_of_lt (Nat.lt_of_lt_of_le (Heap.lt_size e) I.ok.above)
 have neC : ∀ b o, X.s₀.heap.get? b = some o -> b ∉ X.ex -> b ∉ ch := fun b o e hx hb => by
  rcases (hch b hb).1 with z | z
  · exact hx z
  · exact absurd (Nat.lt_of_lt_of_le (Heap.lt_size e) z) (Nat.lt_irrefl _)
 have cellK : ∀ x c, X.env.cells.lookup x = some c -> ∀ v, s.heap.IsCell c v -> h'.IsCell c v := fun x c e v ⟨o, ho, hd⟩ => by
  have nch : c ∉ ch := fun z => (hch c z).2.2.1 x c e rfl
  by_cases hc : c ∈ X.fs
  · obtain ⟨sl, q⟩ := slot c o (I.cne x c e) hc nch ho (I.freeC x c e)
    exact ⟨_, q, hd⟩
  · exact ⟨o, keep c o (I.cne x c e) hc nch ho (I.freeC x c e), hd⟩
 refine ⟨I.ok, I.os, hg, ⟨fun b o e n hb hx => ?_, fun b o e n hb hx => ?_, fun b o e n hx => ?_, fun b o e hx => ?_, fun b xs e => tups b xs (I.base.tups b xs e), fun b o xs e => frzs b o xs (I.base.frzs b o xs e), fun b ps e => ?_⟩, ?_, fun x c e => ?_, ?_, fun x c e => ?_, fun p hp => ?_, hok, I.len⟩
 · exact keep b o (neL b o e) hb (neC b o e hx) (I.base.keep b o e n hb hx) (I.base.free b o e n hx)
 · obtain ⟨sl, e1⟩ := I.base.slot b o e n hb hx
   obtain ⟨sl', e2⟩ := slot b _ (neL b o e) hb (neC b o e hx) e1 (I.base.free b o e n hx)
   exact ⟨sl', e2⟩
 · obtain ⟨o', e1⟩ := I.base.there b o e hx
   exact free b o' (neC b o e hx) e1 (I.base.free b o e n hx)
 · obtain ⟨o', e1⟩ := I.base.there b o e hx
   exact there b o' (neC b o e hx) e1
 · obtain ⟨m1, e1⟩ := I.base.tbls b ps e
   obtain ⟨m2, e2⟩ := tbls b _ e1
   exact ⟨m1 ++ m2, by rw [e2, Array.append_assoc]⟩
 · obtain ⟨m, hn, hl⟩ := I.loc
   refine ⟨m, ns m hn, fun i x v e1 e2 e3 => ?_⟩
   obtain ⟨u, r, l⟩ := hl i x v e1 e2 e3
   refine ⟨u, r, ?_⟩
   rcases l with l | ⟨k, c, e, z⟩
   · exact .inl l
   · exact .inr ⟨k, c, e, cellK x c e _ z⟩
 · obtain ⟨v, z⟩ := I.cell x c e
   exact ⟨v, cellK x c e v z⟩
 · obtain ⟨m, ⟨o, _, _, ho, _⟩, _⟩ := I.loc
   exact free _ o (fun z => (hch _ z).2.1 rfl) ho I.free
 · obtain ⟨v, o, ho, hd⟩ := I.cell x c e
   exact free c o (fun z => (hch c z).2.2.1 x c e rfl) ho (I.freeC x c e)
 · obtain ⟨e, n, ne, nf, d⟩ := I.pin p hp
   have nch : p.1 ∉ ch := fun z => (hch p.1 z).2.2.2 p hp rfl
   exact ⟨keep p.1 p.2 ne nf nch e n, free p.1 p.2 nch e n, ne, nf, d⟩
theorem Inv.un {t' : Nat} (I : Inv X pins σ H s) (u : Un X.fs [] H H' s.heap h') (hok : HOk X.prog X.w H' h') : Inv X pins σ H' { s with heap := h', toks := t' } := by
 obtain ⟨m, ⟨o, es, ep, ho, r⟩, _⟩ := id I.loc
 obtain ⟨sl, hL⟩ := u.any ho I.free (by simp)
 exact I.step (g' := s.gens) (d' := s.drawn) (ch := []) (fun _ z => nomatch z) (fun b o _ hb _ e n => u.keep b o e n hb (by simp)) (fun b o _ hb _ e n => u.slot b o e n hb (by simp)) (fun b o _ e n => u.free b o e n (by simp)) (fun b o _ e => u.there b o e (by simp)) u.tups u.frzs u.tbls (fun m' hm => by
  obtain ⟨o', es', ep', ho', r'⟩ := hm
  rw [ho] at ho'; cases ho'
  exact ⟨_, es', ep', hL, r'⟩) hok I.bare
theorem Inv.call {g' : Array GenState} {t' : Nat} {d' : Drawn} {ch : List Addr} (I : Inv X pins σ H s) (u : Un (frs X.stack) ch H H' s.heap h') (hok : HOk X.prog X.w H' h') (hg : AllBare g')
 (hch : ∀ b ∈ ch, (b ∈ X.ex \/ X.s₀.heap.objs.size <= b) /\ b ≠ X.env.locals /\ (∀ x c, X.env.cells.lookup x = some c -> c ≠ b) /\ ∀ p ∈ X.pn ++ pins, p.1 ≠ b) :
 Inv X pins σ H' { s with heap := h', gens := g', drawn := d', toks := t' } := by
 obtain ⟨m, ⟨o, es, ep, ho, r⟩, _⟩ := id I.loc
 obtain ⟨sl, hL⟩ := u.any ho I.free fun z => (hch _ z).2.1 rfl
 exact I.step (ch := ch) hch (fun b o hL hb hc e n => u.keep b o e n (fun z => (List.mem_cons.mp (I.stkSub b z)).elim hL hb) hc) (fun b o _ _ hc e n => u.any e n hc) (fun b o hc e n => u.free b o e n hc) (fun b o hc e => u.there b o e hc) u.tups u.frzs u.tbls (fun m' hm => by
  obtain ⟨o', es', ep', ho', r'⟩ := hm
  rw [ho] at ho'; cases ho'
  exact ⟨_, es', ep', hL, r'⟩) hok hg
theorem Inv.turned {t' : Nat} {it : Addr} (I : Inv X pins σ H s) (k : ∀ b o, b ≠ it -> s.heap.get? b = some o -> h'.get? b = some o) (hn : H it = none) (hL : it ≠ X.env.locals)
 (h1 : it ∈ X.ex \/ X.s₀.heap.objs.size <= it) (h2 : ∀ x c, X.env.cells.lookup x = some c -> c ≠ it) (h3 : ∀ p ∈ X.pn ++ pins, p.1 ≠ it) : Inv X pins σ H { s with heap := h', toks := t' } := by
 have nit : ∀ b u, H b = some u -> b ≠ it := fun b u e z => by rw [z, hn] at e; cases e
 refine I.step (g' := s.gens) (d' := s.drawn) (ch := [it]) (fun b hb => ?_) (fun b o _ _ hc e _ => k b o (fun z => hc (by simp [z])) e) (fun b o _ _ hc e _ => ⟨o.slots, k b o (fun z => hc (by simp [z])) e⟩) (fun _ _ _ _ n => n)
  (fun b o hc e => ⟨o, k b o (fun z => hc (by simp [z])) e⟩) (fun _ _ e => e) (fun _ _ _ e => e) (fun b ps e => ⟨#[], by rw [e]; simp⟩) (fun m hm => ?_) (fun b u e => ?_) I.bare
 · have e : b = it := by simpa using hb
   subst e
   exact ⟨h1, hL, h2, h3⟩
 · obtain ⟨o, es, ep, ho, r⟩ := hm
   exact ⟨o, es, ep, k _ o (Ne.symm hL) ho, r⟩
 · refine (I.hok b u e).stay (fun c v hc q => k c v ?_ q) (fun _ q => q) fun _ _ q => q
   rcases hc with z | z
   · rw [z]; exact nit b u e
   · exact nit c _ z
theorem Inv.tok (I : Inv X pins σ H s) (t : Nat) : Inv X pins σ H { s with toks := t } := I.un (h' := s.heap) (t' := t) Un.refl I.hok
theorem Inv.kept {t' : Nat} (I : Inv X pins σ H s) (k : ∀ b u, s.heap.get? b = some u -> h'.get? b = some u) : Inv X pins σ H { s with heap := h', toks := t' } := I.un (Un.kept k) (I.hok.kept k)
theorem Inv.laid {a : Addr} {o : HO} {t' : Nat} (I : Inv X pins σ H s) (k : ∀ b u, s.heap.get? b = some u -> h'.get? b = some u) (hp : s.heap.objs.size <= a) (new : ObjOk X.prog X.w (upd H a o) h' a o) :
 Inv X pins σ (upd H a o) { s with heap := h', toks := t' } := I.un (Un.laid k hp (I.hok.fresh hp)) (I.hok.laid k hp new)
theorem Inv.write {x e : Addr} {o : HO} {t' : Nat} (I : Inv X pins σ H s) (mu : Mut (H x)) (he : e = x \/ H e = some (.own x)) (k : ∀ b u, b ≠ e -> s.heap.get? b = some u -> h'.get? b = some u) (heo : ∃ u, h'.get? e = some u)
 (new : ObjOk X.prog X.w (upd H x o) h' x o) : Inv X pins σ (upd H x o) { s with heap := h', toks := t' } := I.un (Un.write mu he k heo) (I.hok.write mu he k heo new)
theorem Inv.pins_of {pins' : List (Addr × Obj)} (I : Inv X pins σ H s) (h : ∀ p ∈ pins', s.heap.get? p.1 = some p.2 /\ H p.1 = none /\ p.1 ≠ X.env.locals /\ p.1 ∉ X.fs /\ ∀ v, p.2.data ≠ .cell v) : Inv X pins' σ H s :=
 ⟨I.ok, I.os, I.bare, I.base, I.loc, I.cell, I.free, I.freeC, fun p hp => (List.mem_append.mp hp).elim (fun z => I.pin p (List.mem_append_left _ z)) (h p), I.hok, I.len⟩
theorem wW {N : List Str} (hN : N.Nodup) {i j : Nat} {x : Str} (a : N[i]? = some x) (b : N[j]? = some x) : i = j := by
 obtain ⟨h1, e1⟩ := List.getElem?_eq_some_iff.mp a
 obtain ⟨h2, e2⟩ := List.getElem?_eq_some_iff.mp b
 exact (List.getElem_inj hN).mp (e1.trans e2.symm)
theorem mR {M : Model} {A : Around} {E : Value -> Shared -> Prop} {i : Nat} {x : Str} {v : V} {u : Value} {Q : Unit -> Shared -> Prop} (I : Inv X pins σ H s) (hN : X.N.Nodup) (hi : X.N[i]? = some x) (hx : Loc X.env.scope x) (r : RelV v u)
 (h : ∀ s', Inv X pins (σ.set i (some v)) H s' -> (∃ a, Heap.SameBut a s.heap s'.heap /\ (a = X.env.locals \/ X.env.cells.lookup x = some a)) -> Q () s') (hf : X.fn x = true \/ X.env.scope.names.lookup x = some .local := by first | exact .inl rfl | exact .inr rfl | assumption) : wpAny M A (storeName X.env x u) Q E s := by
 obtain ⟨m, hn, hl⟩ := id I.loc
 have hcls : (X.env.scope.kind == .class || (X.env.scope.kind == .module && X.env.locals != X.env.globals)) = false := by rw [I.ok.kind]; rfl
 have hiσ : i < σ.length := by rw [I.len]; exact (List.getElem?_eq_some_iff.mp hi).1
 have cne := I.cne
 have tracked : ∀ {a : Addr} {h' : Heap}, (∃ o, s.heap.get? a = some o /\ H a = none) -> Heap.SameBut a s.heap h' -> HOk X.prog X.w H h' := fun {a h'} ha hs b ob e => by
  obtain ⟨_, _, hfree⟩ := ha
  refine (I.hok b ob e).stay (fun c w' hc q => (hs.2 c ?_).trans q) (fun _ q => q) fun _ _ q => q
  rintro rfl
  rcases hc with rfl | hc
  · rw [hfree] at e; cases e
  · rw [hfree] at hc; cases hc
 rcases hx with hk | hk
 · refine wpAny_storeName_local hk hn (fun h' hn' hs => ?_) hcls
   obtain ⟨oL, _, _, hoL, _⟩ := id hn
   refine h _ ⟨I.ok, I.os, I.bare, ⟨fun b o e n hb hx => ?_, fun b o e n hb hx => ?_, I.base.free, fun b o e hx => ?_, I.base.tups, I.base.frzs, I.base.tbls⟩, ⟨_, hn', fun j y v' e1 e2 e3 => ?_⟩, fun y c e => ?_, I.free, I.freeC, fun p hp => ?_, tracked ⟨oL, hoL, I.free⟩ hs, by simpa using I.len⟩ ⟨_, hs, .inl rfl⟩
   · exact (hs.2 b (Nat.ne_of_lt (Nat.lt_of_lt_of_le (Heap.lt_size e) I.ok.above))).trans (I.base.keep b o e n hb hx)
   · obtain ⟨sl, e1⟩ := I.base.slot b o e n hb hx
     exact ⟨sl, (hs.2 b (Nat.ne_of_lt (Nat.lt_of_lt_of_le (Heap.lt_size e) I.ok.above))).trans e1⟩
   · obtain ⟨o', e1⟩ := I.base.there b o e hx
     exact ⟨o', (hs.2 b (Nat.ne_of_lt (Nat.lt_of_lt_of_le (Heap.lt_size e) I.ok.above))).trans e1⟩
   · by_cases hj : j = i
     · subst hj
       rw [hi] at e1; cases e1
       rw [List.getElem?_set_self hiσ] at e2
       cases e2
       exact ⟨u, r, .inl ⟨hk, by simp⟩⟩
     · rw [List.getElem?_set_ne (Ne.symm hj)] at e2
       obtain ⟨u', r', q⟩ := hl j y v' e1 e2 e3
       refine ⟨u', r', ?_⟩
       rcases q with ⟨k, e⟩ | ⟨k, c, e, z⟩
       · refine .inl ⟨k, ?_⟩
         have : y ≠ x := fun e => hj (wW hN e1 (e ▸ hi))
         simp [this, e]
       · exact .inr ⟨k, c, e, z.sameBut hs (cne y c e)⟩
   · obtain ⟨w', z⟩ := I.cell y c e
     exact ⟨w', z.sameBut hs (cne y c e)⟩
   · obtain ⟨e, n, ne, nf, d⟩ := I.pin p hp
     exact ⟨(hs.2 p.1 ne).trans e, n, ne, nf, d⟩
 · have hfn : X.fn x = true := by
    rcases hf with z | z
    · exact z
    · rw [z] at hk; cases hk
   obtain ⟨c, hc⟩ := I.ok.has x (.inl hk)
   obtain ⟨w', z⟩ := I.cell x c hc
   refine wpAny_storeName_cell I.ok.kind hk hc z (fun h' hc' hs => ?_)
   obtain ⟨oc, hoc, hocd⟩ := id z
   refine h { s with heap := h' } ⟨I.ok, I.os, I.bare, ⟨fun b o e n hb hx => ?_, fun b o e n hb hx => ?_, I.base.free, fun b o e hx => ?_, I.base.tups, I.base.frzs, I.base.tbls⟩, ⟨m, hn.sameBut hs (Ne.symm (cne x c hc)), fun j y v' e1 e2 e3 => ?_⟩, fun y c' e => ?_, I.free, I.freeC, fun p hp => ?_, tracked ⟨oc, hoc, I.freeC x c hc⟩ hs, by simpa using I.len⟩ ⟨c, hs, .inr hc⟩
   · exact (hs.2 b (Nat.ne_of_lt (Nat.lt_of_lt_of_le (Heap.lt_size e) (I.ok.cab x c hfn hc)))).trans (I.base.keep b o e n hb hx)
   · obtain ⟨sl, e1⟩ := I.base.slot b o e n hb hx
     exact ⟨sl, (hs.2 b (Nat.ne_of_lt (Nat.lt_of_lt_of_le (Heap.lt_size e) (I.ok.cab x c hfn hc)))).trans e1⟩
   · obtain ⟨o', e1⟩ := I.base.there b o e hx
     exact ⟨o', (hs.2 b (Nat.ne_of_lt (Nat.lt_of_lt_of_le (Heap.lt_size e) (I.ok.cab x c hfn hc)))).trans e1⟩
   · by_cases hj : j = i
     · subst hj
       rw [hi] at e1; cases e1
       rw [List.getElem?_set_self hiσ] at e2
       cases e2
       exact ⟨u, r, .inr ⟨.inl hk, c, hc, hc'⟩⟩
     · rw [List.getElem?_set_ne (Ne.symm hj)] at e2
       obtain ⟨u', r', q⟩ := hl j y v' e1 e2 e3
       refine ⟨u', r', ?_⟩
       rcases q with q | ⟨k, c', e, z'⟩
       · exact .inl q
       · refine .inr ⟨k, c', e, z'.sameBut hs ?_⟩
         rintro rfl
         exact hj (wW hN e1 (I.ok.inj _ _ _ e hc ▸ hi))
   · by_cases hcc : c' = c
     · subst hcc; exact ⟨_, hc'⟩
     · obtain ⟨w2, z2⟩ := I.cell y c' e
       exact ⟨w2, z2.sameBut hs hcc⟩
   · obtain ⟨e, n, ne, nf, d⟩ := I.pin p hp
     refine ⟨(hs.2 p.1 ?_).trans e, n, ne, nf, d⟩
     intro q
     rw [q, hoc] at e
     have q' : oc = p.2 := Option.some.inj e
     exact d w' (by rw [<- q']; exact hocd)
theorem lN {M : Model} {A : Around} {E : Value -> Shared -> Prop} {i : Nat} {x : Str} {v : V} {u : Value} {Q : Unit -> Shared -> Prop} (I : Inv X pins σ H s) (hN : X.N.Nodup) (hi : X.N[i]? = some x) (hx : Loc X.env.scope x) (r : RelV v u)
 (h : ∀ s', Inv X pins (σ.set i (some v)) H s' -> Q () s') (hf : X.fn x = true \/ X.env.scope.names.lookup x = some .local := by first | exact .inl rfl | exact .inr rfl | assumption) : wpAny M A (storeName X.env x u) Q E s :=
 mR I hN hi hx r (fun s' I' _ => h s' I') hf
end
abbrev XK := Value -> Option Addr -> Hp -> Prop
abbrev St := List (Option V)
abbrev VK := V -> Hp -> Prop
abbrev TE := St -> Hp -> VK -> Prop
abbrev TT := St -> Hp -> (Bool -> Hp -> Prop) -> Prop
abbrev TA := St -> Hp -> (List V -> Hp -> Prop) -> Prop
structure Ends where
 nx : St -> Hp -> Prop
 rt : VK
 bk : St -> Hp -> Prop := fun _ _ => False
 ct : St -> Hp -> Prop := fun _ _ => False
abbrev TS := Ends -> St -> Hp -> Prop
def EP (X : Cx) (pins : List (Addr × Obj)) (σ : St) (Q : VK) (u : Value) (s' : Shared) : Prop := ∃ v H', Inv X pins σ H' s' /\ RelV v u /\ Q v H'
def TP (X : Cx) (pins : List (Addr × Obj)) (σ : St) (Q : Bool -> Hp -> Prop) (b : Bool) (s' : Shared) : Prop := ∃ H', Inv X pins σ H' s' /\ Q b H'
def AP (X : Cx) (pins : List (Addr × Obj)) (σ : St) (Q : List V -> Hp -> Prop) (us : List Value) (s' : Shared) : Prop := ∃ vs H', Inv X pins σ H' s' /\ Vals vs us /\ Q vs H'
def SP (X : Cx) (pins : List (Addr × Obj)) (D : Ends) (f : Flow) (s' : Shared) : Prop :=
 match f with
 | .next => ∃ σ' H', Inv X pins σ' H' s' /\ D.nx σ' H'
 | .brk => ∃ σ' H', Inv X pins σ' H' s' /\ D.bk σ' H'
 | .cont => ∃ σ' H', Inv X pins σ' H' s' /\ D.ct σ' H'
 | .ret u => ∃ v σ' H', Inv X pins σ' H' s' /\ RelV v u /\ D.rt v H'
def PE (X : Cx) (e : Expr) (t : TE) : Prop :=
 ∀ (pins : List (Addr × Obj)) (s : Shared) (σ : St) (H : Hp) (Q : VK), Inv X pins σ H s -> t σ H Q -> wpAny (model X.prog X.w) X.A (eval e X.env) (EP X pins σ Q) X.xe s
def PT (X : Cx) (e : Expr) (t : TT) : Prop :=
 ∀ (pins : List (Addr × Obj)) (s : Shared) (σ : St) (H : Hp) (Q : Bool -> Hp -> Prop), Inv X pins σ H s -> t σ H Q -> wpAny (model X.prog X.w) X.A (isTrue e X.env (eval e X.env)) (TP X pins σ Q) X.xe s
def PW (X : Cx) (e : Expr) (t : TT) : Prop :=
 ∀ (whole : Sem Value) (pins : List (Addr × Obj)) (s : Shared) (σ : St) (H : Hp) (Q : Bool -> Hp -> Prop), Inv X pins σ H s -> t σ H Q -> wpAny (model X.prog X.w) X.A (isTrue e X.env whole) (TP X pins σ Q) X.xe s
theorem PW.pt {X : Cx} {e : Expr} {t : TT} (h : PW X e t) : PT X e t := h _
def PA (X : Cx) (es : List Expr) (t : TA) : Prop :=
 ∀ (pos : Pos) (pins : List (Addr × Obj)) (s : Shared) (σ : St) (H : Hp) (Q : List V -> Hp -> Prop), Inv X pins σ H s -> t σ H Q -> wpAny (model X.prog X.w) X.A (spliced (backTo pos (starEach es X.env))) (AP X pins σ Q) X.xe s
def PS (X : Cx) (st : Stmt) (t : TS) : Prop :=
 ∀ (pins : List (Addr × Obj)) (s : Shared) (σ : St) (H : Hp) (D : Ends), Inv X pins σ H s -> t D σ H -> wpAny (model X.prog X.w) X.A (exec st X.env) (SP X pins D) X.xe s
def PSs (X : Cx) (st : List Stmt) (t : TS) : Prop :=
 ∀ (pins : List (Addr × Obj)) (s : Shared) (σ : St) (H : Hp) (D : Ends), Inv X pins σ H s -> t D σ H -> wpAny (model X.prog X.w) X.A (execs st X.env) (SP X pins D) X.xe s
theorem thn {α : Type} {t : Sem α} {Q Q' : α -> Shared -> Prop} {M : Model} {A : Around} {E : Value -> Shared -> Prop} {s : Shared} (h : wpAny M A t Q E s) (hQ : ∀ a s, Q a s -> Q' a s) : wpAny M A t Q' E s := wpAny_mono h hQ fun _ _ x => x
end L2
namespace L2
open PySem PySem.Spec PyProof.Rows
section
variable {X : Cx}
theorem bin {a b : Expr} {ta tb : TE} (ha : PE X a ta) (hb : PE X b tb) {pins : List (Addr × Obj)} {s : Shared} {σ : St} {H : Hp} {R : V -> V -> Hp -> Prop} (I : Inv X pins σ H s) (h : ta σ H fun x H1 => tb σ H1 fun y H2 => R x y H2)
 {α : Type} {Q : α -> Shared -> Prop} {f : Value -> Value -> Sem α}
 (hf : ∀ v u s2 x y H2, Inv X pins σ H2 s2 -> RelV x v -> RelV y u -> R x y H2 -> wpAny (model X.prog X.w) X.A (f v u) Q X.xe s2) :
 wpAny (model X.prog X.w) X.A (eval a X.env) (fun v s₁ => wpAny (model X.prog X.w) X.A (eval b X.env) (fun u s₂ => wpAny (model X.prog X.w) X.A (f v u) Q X.xe s₂) X.xe s₁) X.xe s := by
 refine thn (ha pins s σ H _ I h) fun v s1 ⟨x, H1, I1, r1, q1⟩ => ?_
 refine thn (hb pins s1 σ H1 _ I1 q1) fun u s2 ⟨y, H2, I2, r2, q2⟩ => ?_
 exact hf v u s2 x y H2 I2 r1 r2 q2
def ZR (i : Nat) : TE := fun σ H Q => ∃ v, σ[i]? = some (some v) /\ Q v H
def tC (v : V) : TE := fun _ H Q => Q v H
theorem RH {i : Nat} {x : Str} {pos : Pos} (hN : X.N[i]? = some x) (hv : Vis X.env.scope x) (hd : (x == ("__debug__" : Str)) = false := by decide) (hcd : (x == ("__classdict__" : Str)) = false := by decide) : PE X (.Name x pos) (ZR i) := by
 intro pins s σ H Q I h
 obtain ⟨v, e, h⟩ := h
 obtain ⟨m, hn, hl⟩ := I.loc
 obtain ⟨u, r, l⟩ := hl i x v hN e hv
 have fin : EP X pins σ Q u s := ⟨v, H, I, r, h⟩
 rcases l with ⟨hk, hm⟩ | ⟨hk, c, hc, hcell⟩
 · exact wpAny_Name (wpAny_loadName_local I.ok.kind hk hn hm fin) hd
 · rcases hk with hk | hk
   · exact wpAny_Name (wpAny_loadName_cell I.ok.kind hk hc hcell fin) hd
   · exact wpAny_Name (wpAny_loadName_free I.ok.kind hk hc hcell fin hcd) hd
theorem SC {i j pos} : PE X (.Constant (.int i) j pos) (tC (.int i)) := fun _ _ _ H _ I h => wpAny_Constant_int ⟨.int i, H, I.tok _, ⟨_, rfl⟩, h⟩
theorem ZE {b j pos} : PE X (.Constant (.bool b) j pos) (tC (.bl b)) := fun _ _ _ H _ I h => Constant_bool ⟨.bl b, H, I, rfl, h⟩
def Gl (X : Cx) (x : Str) : Prop := X.env.kindOf x = some .globalImplicit
theorem uS {E : Value -> Shared -> Prop} {pins : List (Addr × Obj)} {s : Shared} {σ : St} {H : Hp} {x : Str} {u : Value} {pos : Pos} {Q : Value -> Shared -> Prop} (I : Inv X pins σ H s) (hg : Gl X x) (hm : X.mg x = some u) (h : Q u s)
 (hd : (x == ("__debug__" : Str)) = false := by decide) : wpAny (model X.prog X.w) X.A (eval (.Name x pos) X.env) Q E s :=
 Calls.Name_function_global I.ok.kind hg (Calls.loadGlobal_global (by rw [I.ok.glob]; exact I.mod.glob.keeps I.bk) hm h) hd
theorem jO {E : Value -> Shared -> Prop} {pins : List (Addr × Obj)} {s : Shared} {σ : St} {H : Hp} {x : Str} {u : Value} {pos : Pos} {Q : Value -> Shared -> Prop} (I : Inv X pins σ H s) (hg : Gl X x) (hm : X.mg x = none) (hv : bootBuiltins x = some u) (h : Q u s)
 (hn : x ≠ "__name__" := by decide) (hd : (x == ("__debug__" : Str)) = false := by decide) : wpAny (model X.prog X.w) X.A (eval (.Name x pos) X.env) Q E s := by
 obtain ⟨mb, h1, h2⟩ := I.mod.blt
 exact Calls.Name_function_global I.ok.kind hg (Calls.loadGlobal_builtin (by rw [I.ok.glob]; exact I.mod.glob.keeps I.bk) hm (by rw [I.ok.blt]; exact h1.keeps I.bk) ((h2 x hn).trans hv) h) hd
theorem LF {x : Str} {v : V} {u : Value} {pos : Pos} (hg : Gl X x) (hm : X.mg x = some u) (r : RelV v u) (hd : (x == ("__debug__" : Str)) = false := by decide) : PE X (.Name x pos) (tC v) :=
 fun _ _ _ H _ I h => uS I hg hm ⟨v, H, I, r, h⟩ hd
theorem tH {x : Str} {v : V} {u : Value} {pos : Pos} (hg : Gl X x) (hm : X.mg x = none) (hv : bootBuiltins x = some u) (r : RelV v u) (hn : x ≠ "__name__" := by decide) (hd : (x == ("__debug__" : Str)) = false := by decide) : PE X (.Name x pos) (tC v) :=
 fun _ _ _ H _ I h => jO I hg hm hv ⟨v, H, I, r, h⟩ hn hd
variable {a b : Expr} {ta tb : TE} {pos : Pos}
def PC (X : Cx) (op : CmpOp) (a b : Expr) (t : TE) : Prop :=
 ∀ (pins : List (Addr × Obj)) (s : Shared) (σ : St) (H : Hp) (Q : VK), Inv X pins σ H s -> t σ H Q ->
  wpAny (model X.prog X.w) X.A (eval a X.env) (fun v s₁ => wpAny (model X.prog X.w) X.A (eval b X.env) (fun u s₂ => wpAny (model X.prog X.w) X.A (compareOp op v u) (EP X pins σ Q) X.xe s₂) X.xe s₁) X.xe s
theorem IF (b : Expr) {op : CmpOp} (h : op ≠ .In) (h2 : op ≠ .NotIn) : behindInMarks op b = false := by
 have e1 : (op == CmpOp.In) = false := by cases op <;> first | rfl | exact absurd rfl h
 have e2 : (op == CmpOp.NotIn) = false := by cases op <;> first | rfl | exact absurd rfl h2
 cases b <;> simp [behindInMarks, e1, e2]
def tB (t : TE) : TT := fun σ H Q => t σ H fun x H1 => ∃ c, x = .bl c /\ Q c H1
theorem IP {op : CmpOp} {t : TE} (h : PC X op a b t) (h1 : behindInMarks op b = false := by first | exact IF _ (by decide) (by decide) | rfl) : PT X (.Compare a [op] [b] pos) (tB t) := by
 intro pins s σ H Q I hw
 refine wpAny_isTrue_Compare1 (thn (h pins s σ H _ I hw) fun v s1 h1 => thn h1 fun u s2 h2 => thn h2 fun c s3 ⟨x, H1, I1, r1, q1⟩ => ?_) h1
 obtain ⟨d, rfl, q⟩ := q1
 cases r1
 exact wpAny_truthy_bool ⟨H1, I1, q⟩
theorem UA {e : Expr} {t : TE} (h : PE X e t) (he : ∀ whole, isTrue e X.env whole = (do let v <- whole; standAt e.pos; holding [v] (truthy v)) := by intro _; rfl) : PT X e (tB t) := by
 intro pins s σ H Q I hw
 refine isTrue_plain (thn (h pins s σ H _ I hw) fun v s1 ⟨x, H1, I1, r1, q1⟩ => ?_) (he _)
 obtain ⟨d, rfl, q⟩ := q1
 cases r1
 exact wpAny_truthy_bool ⟨H1, I1, q⟩
variable {tA tB' : TT} {rest : List Expr}
def XX (t u : TT) : TT := fun σ H Q => t σ H fun c H1 => if c = true then u σ H1 Q else Q false H1
def tOr (t u : TT) : TT := fun σ H Q => t σ H fun c H1 => if c = true then Q true H1 else u σ H1 Q
def YS (t : TT) : TT := fun σ H Q => t σ H fun c H1 => Q (!c) H1
theorem KZ (ha : PT X a tA) : PW X (.BoolOp .And [a] pos) tA := by
 intro wh pins s σ H Q I h
 refine isTrue_and (thn (ha pins s σ H Q I h) fun c s1 e => ?_)
 cases c with
 | true => exact isTrue_and_nil e
 | false => exact e
theorem TR (ha : PT X a tA) : PW X (.BoolOp .Or [a] pos) tA := by
 intro wh pins s σ H Q I h
 refine isTrue_or (thn (ha pins s σ H Q I h) fun c s1 e => ?_)
 cases c with
 | false => exact isTrue_or_nil e
 | true => exact e
theorem UR (ha : PT X a tA) (hb : PW X (.BoolOp .And (b :: rest) pos) tB') : PW X (.BoolOp .And (a :: b :: rest) pos) (XX tA tB') := by
 intro wh pins s σ H Q I h
 refine isTrue_and (thn (ha pins s σ H _ I h) fun c s1 ⟨H1, I1, q1⟩ => ?_)
 cases c with
 | true => exact hb wh pins s1 σ H1 Q I1 q1
 | false => exact ⟨H1, I1, q1⟩
theorem YT (ha : PT X a tA) (hb : PW X (.BoolOp .Or (b :: rest) pos) tB') : PW X (.BoolOp .Or (a :: b :: rest) pos) (tOr tA tB') := by
 intro wh pins s σ H Q I h
 refine isTrue_or (thn (ha pins s σ H _ I h) fun c s1 ⟨H1, I1, q1⟩ => ?_)
 cases c with
 | true => exact ⟨H1, I1, q1⟩
 | false => exact hb wh pins s1 σ H1 Q I1 q1
theorem RV (ha : PT X a tA) : PT X (.UnaryOp .Not a pos) (YS tA) := by
 intro pins s σ H Q I h
 exact isTrue_not (ha pins s σ H (fun c H1 => Q (!c) H1) I h)
def QH (ta tb : TE) : TE := fun σ H Q => ta σ H fun x H1 => ∃ c, x = .bl c /\ if c = true then tb σ H1 Q else Q (.bl false) H1
def QP (ta : TE) : TE := fun σ H Q => ta σ H fun x H1 => ∃ c, x = .bl c /\ Q (.bl (!c)) H1
theorem TM {op} {t : TE} (h : PE X a t) : PE X (.BoolOp op [a] pos) t := fun pins s σ H Q I hw => BoolOp_one (h pins s σ H Q I hw)
theorem RB (ha : PE X a ta) (hb : PE X (.BoolOp .And (b :: rest) pos) tb) : PE X (.BoolOp .And (a :: b :: rest) pos) (QH ta tb) := by
 intro pins s σ H Q I h
 refine BoolOp_and (thn (ha pins s σ H _ I h) fun v s1 ⟨x, H1, I1, r1, q1⟩ => ?_)
 obtain ⟨c, rfl, q1⟩ := q1
 cases r1
 refine wpAny_truthy_bool ?_
 cases c with
 | true => exact hb pins s1 σ H1 Q I1 q1
 | false => exact ⟨.bl false, H1, I1, rfl, q1⟩
theorem RU (ha : PE X a ta) : PE X (.UnaryOp .Not a pos) (QP ta) := by
 intro pins s σ H Q I h
 refine UnaryOp_ (thn (ha pins s σ H _ I h) fun v s1 ⟨x, H1, I1, r1, q1⟩ => ?_)
 obtain ⟨c, rfl, q1⟩ := q1
 cases r1
 exact not_of (wpAny_truthy_bool ⟨.bl (!c), H1, I1, rfl, q1⟩)
def tIf (t : TT) (ta tb : TE) : TE := fun σ H Q => t σ H fun c H1 => if c = true then ta σ H1 Q else tb σ H1 Q
theorem FH {c : Expr} (hc : PT X c tA) (ha : PE X a ta) (hb : PE X b tb) : PE X (.IfExp c a b pos) (tIf tA ta tb) := by
 intro pins s σ H Q I h
 refine wpAny_IfExp (thn (hc pins s σ H _ I h) fun d s1 ⟨H1, I1, q1⟩ => ?_)
 cases d with
 | true => exact ha pins s1 σ H1 Q I1 q1
 | false => exact hb pins s1 σ H1 Q I1 q1
end
end L2
namespace L2
open PySem PySem.Spec PyProof.Rows
def SqL (K : PySem.W.Frag) (H : Hp) (a : Addr) (xs : List V) : Prop :=
 Rd H a (.lst xs) \/
  ∃ (o : Obj) (its : Array Value) (n : Nat), K.lookup a = some o /\ o.cls = .type "list" /\ o.dict = none /\ o.data = .seq its n /\ its.size <= sizeLine /\ Vals xs its.toList
def SqT (K : PySem.W.Frag) (H : Hp) (a : Addr) (xs : List V) : Prop :=
 Rd H a (.tup xs) \/
  ∃ (o : Obj) (its : Array Value) (n : Nat), K.lookup a = some o /\ o.cls = .type "tuple" /\ o.data = .seq its n /\ its.size <= sizeLine /\ Vals xs its.toList
def aAh : Value -> Option V
 | .none => some .non
 | .bool b => some (.bl b)
 | .int i _ => some (.int i)
 | .str x _ => some (.str x)
 | .bytes b _ => some (.byt b)
 | .float b _ => some (.flt b)
 | .ref a => some (.ref a)
 | .type n => some (.ty n)
 | _ => none
theorem RelV.abs {x : V} {u : Value} (r : RelV x u) : aAh u = some x := by
 cases x with
 | non => cases r; rfl
 | bl _ => cases r; rfl
 | int _ => obtain ⟨t, rfl⟩ := r; rfl
 | str _ => obtain ⟨t, rfl⟩ := r; rfl
 | byt _ => obtain ⟨t, rfl⟩ := r; rfl
 | flt _ => obtain ⟨t, rfl⟩ := r; rfl
 | ref _ => cases r; rfl
 | ty _ => cases r; rfl
theorem RelV.inj {x y : V} {u : Value} (r : RelV x u) (q : RelV y u) : x = y := Option.some.inj (r.abs.symm.trans q.abs)
theorem Vals.inj : ∀ {xs ys : List V} {us : List Value}, Vals xs us -> Vals ys us -> xs = ys
 | _, _, _, .nil, .nil => rfl
 | _, _, _, .cons r t, .cons r' t' => by rw [r.inj r', Vals.inj t t']
section
variable {X : Cx} {pins : List (Addr × Obj)} {σ : St} {H : Hp} {s : Shared} {a : Addr} {xs ys : List V}
theorem SqL.of {K : PySem.W.Frag} (h : H a = some (.lst xs)) : SqL K H a xs := .inl (.inl h)
theorem SqT.of {K : PySem.W.Frag} (h : H a = some (.tup xs)) : SqT K H a xs := .inl (.inl h)
theorem Inv.list (I : Inv X pins σ H s) (h : SqL X.K H a xs) : ∃ its : List Value, Vals xs its /\ PlainL s.heap a its.toArray /\ xs.length <= sizeLine := by
 rcases h with h | ⟨o, its, n, hk, hc, hd, hs, hz, r⟩
 · obtain ⟨z, its, n, r, e⟩ := h.ok I.hok
   exact ⟨its, r, ⟨_, n, e, rfl, rfl, rfl⟩, z⟩
 · refine ⟨its.toList, r, ⟨o, n, I.kIn a o hk, hc, hd, by simpa using hs⟩, ?_⟩
   have e := r.length
   simp only [Array.length_toList] at e
   omega
theorem Inv.tuple (I : Inv X pins σ H s) (h : SqT X.K H a xs) : ∃ its : List Value, Vals xs its /\ IsTup s.heap a its.toArray /\ xs.length <= sizeLine := by
 rcases h with h | ⟨o, its, n, hk, hc, hs, hz, r⟩
 · obtain ⟨z, its, r, p⟩ := h.ok I.hok
   exact ⟨its, r, p, z⟩
 · refine ⟨its.toList, r, ⟨o, I.kIn a o hk, hc, n, by simpa using hs⟩, ?_⟩
   have e := r.length
   simp only [Array.length_toList] at e
   omega
theorem Inv.list_inj (I : Inv X pins σ H s) (h : SqL X.K H a xs) (h' : SqL X.K H a ys) : xs = ys := by
 obtain ⟨its, r, ⟨o, n, e, _, _, d⟩, _⟩ := I.list h
 obtain ⟨its', r', ⟨o', n', e', _, _, d'⟩, _⟩ := I.list h'
 rw [e] at e'; cases e'
 rw [d] at d'
 injection d' with d1 _
 have : its = its' := by simpa using congrArg Array.toList d1
 subst this
 exact r.inj r'
theorem Inv.tuple_inj (I : Inv X pins σ H s) (h : SqT X.K H a xs) (h' : SqT X.K H a ys) : xs = ys := by
 obtain ⟨its, r, ⟨o, e, _, n, d⟩, _⟩ := I.tuple h
 obtain ⟨its', r', ⟨o', e', _, n', d'⟩, _⟩ := I.tuple h'
 rw [e] at e'; cases e'
 rw [d] at d'
 injection d' with d1 _
 have : its = its' := by simpa using congrArg Array.toList d1
 subst this
 exact r.inj r'
end
abbrev Cx.wish (X : Cx) (E : Value -> Shared -> Prop) : Cx := { X with xe := E }
abbrev Cx.nox (X : Cx) : Cx := X.wish fun _ _ => False
theorem Cx.Ok.wish {X : Cx} (ok : X.Ok) (E : Value -> Shared -> Prop) : (X.wish E).Ok :=
 ⟨ok.mod, ok.kind, ok.glob, ok.blt, ok.above, ok.inj, ok.has, ok.cab, ok.hd, ok.frames, ok.stk, ok.exf, ok.bs, ok.bsz, ok.noex, ok.exfs, ok.funs, ok.frf⟩
theorem Cx.Ok.unwish {X : Cx} {E : Value -> Shared -> Prop} (ok : (X.wish E).Ok) : X.Ok :=
 ⟨ok.mod, ok.kind, ok.glob, ok.blt, ok.above, ok.inj, ok.has, ok.cab, ok.hd, ok.frames, ok.stk, ok.exf, ok.bs, ok.bsz, ok.noex, ok.exfs, ok.funs, ok.frf⟩
section
variable {X : Cx} {pins : List (Addr × Obj)} {σ : St} {H : Hp} {s : Shared} {E : Value -> Shared -> Prop}
theorem Inv.wish (I : Inv X pins σ H s) (E : Value -> Shared -> Prop) : Inv (X.wish E) pins σ H s := ⟨I.ok.wish E, I.os, I.bare, I.base, I.loc, I.cell, I.free, I.freeC, I.pin, I.hok, I.len⟩
theorem Inv.unwish (I : Inv (X.wish E) pins σ H s) : Inv X pins σ H s := ⟨I.ok.unwish, I.os, I.bare, I.base, I.loc, I.cell, I.free, I.freeC, I.pin, I.hok, I.len⟩
theorem SP.unwish {D : Ends} {f : Flow} {s' : Shared} (h : SP (X.wish E) pins D f s') : SP X pins D f s' := by
 cases f with
 | next => obtain ⟨σ', H', I, q⟩ := h; exact ⟨σ', H', I.unwish, q⟩
 | brk => obtain ⟨σ', H', I, q⟩ := h; exact ⟨σ', H', I.unwish, q⟩
 | cont => obtain ⟨σ', H', I, q⟩ := h; exact ⟨σ', H', I.unwish, q⟩
 | ret u => obtain ⟨v, σ', H', I, r, q⟩ := h; exact ⟨v, σ', H', I.unwish, r, q⟩
theorem PSs.nox {st : List Stmt} {t : TS} (h : PSs X.nox st t) : PSs X st t := fun pins s σ H D I hw =>
 wpAny_mono (h pins s σ H D (I.wish _) hw) (fun _ _ q => q.unwish) fun _ _ z => False.elim z
end
section
variable {X : Cx} {st : Stmt} {rest : List Stmt} {t u : TS} {e : Expr} {te : TE} {pos : Pos}
def PH : TS := fun D σ H => D.nx σ H
def ZM (t u : TS) : TS := fun D σ H => t { D with nx := u D } σ H
theorem NC : PSs X [] PH := fun _ _ σ H _ I h => wpAny_execs_nil ⟨σ, H, I, h⟩
theorem DW (h1 : PS X st t) (h2 : PSs X rest u) : PSs X (st :: rest) (ZM t u) := by
 intro pins s σ H D I h
 refine wpAny_execs_cons (thn (h1 pins s σ H { D with nx := u D } I h) fun f s1 q => ?_)
 cases f with
 | next =>
  obtain ⟨σ', H', I', q⟩ := q
  exact h2 pins s1 σ' H' D I' q
 | ret v => exact q
 | brk => exact q
 | cont => exact q
theorem NH (h1 : PS X st t) : PSs X [st] t := by
 intro pins s σ H D I h
 refine wpAny_execs_cons (thn (h1 pins s σ H D I h) fun f s1 q => ?_)
 cases f with
 | next => exact wpAny_execs_nil q
 | ret v => exact q
 | brk => exact q
 | cont => exact q
theorem Inv.quiet {pins : List (Addr × Obj)} {σ : St} {H : Hp} {s : Shared} (I : Inv X pins σ H s) : interactive X.env = false := by simp [interactive, I.ok.kind]
def PZ (te : TE) : TS := fun D σ H => te σ H fun _ H1 => D.nx σ H1
theorem OJ (he : PE X e te) (hs : swapsWith e none pos.line X.env = pure false := by rfl) : PS X (.Expr e pos) (PZ te) := by
 intro pins s σ H D I h
 exact wpAny_Expr_any (thn (he pins s σ H _ I h) fun v s1 ⟨x, H1, I1, r1, q1⟩ => ⟨σ, H1, I1, q1⟩) I.quiet hs
def XW (te : TE) : TS := fun D σ H => te σ H D.rt
theorem UG (he : PE X e te) : PS X (.Return (some e) pos) (XW te) := by
 intro pins s σ H D I h
 exact wpAny_Return_some (thn (he pins s σ H _ I h) fun v s1 ⟨x, H1, I1, r1, q1⟩ => ⟨x, σ, H1, I1, r1, q1⟩)
def WY (c : TT) (t u : TS) : TS := fun D σ H => c σ H fun b H1 => if b = true then t D σ H1 else u D σ H1
theorem XI {c : Expr} {a b : List Stmt} {tc : TT} (hc : PT X c tc) (ha : PSs X a t) (hb : PSs X b u) : PS X (.If c a b pos) (WY tc t u) := by
 intro pins s σ H D I h
 refine wpAny_If (thn (hc pins s σ H _ I h) fun d s1 ⟨H1, I1, q1⟩ => ?_)
 cases d with
 | true => exact ha pins s1 σ H1 D I1 q1
 | false => exact hb pins s1 σ H1 D I1 q1
def FC : TS := fun _ _ _ => False
theorem JG : PS X st FC := fun _ _ _ _ _ _ h => h.elim
end
abbrev TG := V -> St -> Hp -> (St -> Hp -> Prop) -> Prop
abbrev TGs := List V -> St -> Hp -> (St -> Hp -> Prop) -> Prop
def PG (X : Cx) (target : Expr) (t : TG) : Prop :=
 ∀ (pins : List (Addr × Obj)) (s : Shared) (σ : St) (H : Hp) (v : V) (u : Value) (Q : St -> Hp -> Prop), Inv X pins σ H s -> RelV v u -> t v σ H Q ->
  wpAny (model X.prog X.w) X.A (assign target X.env u) (fun _ s' => ∃ σ' H', Inv X pins σ' H' s' /\ Q σ' H') X.xe s
def PGs (X : Cx) (ts : List Expr) (t : TGs) : Prop :=
 ∀ (pins : List (Addr × Obj)) (s : Shared) (σ : St) (H : Hp) (vs : List V) (us : List Value) (Q : St -> Hp -> Prop), Inv X pins σ H s -> Vals vs us -> t vs σ H Q ->
  wpAny (model X.prog X.w) X.A (assignInOrder ((assignEach ts X.env).map (·.2)) us) (fun _ s' => ∃ σ' H', Inv X pins σ' H' s' /\ Q σ' H') X.xe s
abbrev ON := V -> V -> V -> Hp -> (Hp -> Prop) -> Prop
def UH (X : Cx) (t : ON) : Prop :=
 ∀ (pins : List (Addr × Obj)) (s : Shared) (σ : St) (H : Hp) (o i v : V) (ov iv u : Value) (Q : Hp -> Prop), Inv X pins σ H s -> RelV o ov -> RelV i iv -> RelV v u -> t o i v H Q ->
  wpAny (model X.prog X.w) X.A (setItem ov iv u) (fun _ s' => ∃ H', Inv X pins σ H' s' /\ Q H') X.xe s
section
variable {X : Cx} {pos : Pos}
def pZ (i : Nat) : TG := fun v σ H Q => Q (σ.set i (some v)) H
theorem KD {i : Nat} {x : Str} (hN : X.N.Nodup) (hi : X.N[i]? = some x) (hx : Loc X.env.scope x) (hf : X.fn x = true \/ X.env.scope.names.lookup x = some .local := by first | exact .inl rfl | exact .inr rfl | assumption) : PG X (.Name x pos) (pZ i) := by
 intro pins s σ H v u Q I r h
 exact wpAny_assign_Name (lN I hN hi hx r (fun s' I' => ⟨_, H, I', h⟩) hf)
def ZS : TGs := fun vs σ H Q => vs = [] /\ Q σ H
def PU (t : TG) (u : TGs) : TGs := fun vs σ H Q => ∃ v r, vs = v :: r /\ t v σ H fun σ' H' => u r σ' H' Q
theorem OS : PGs X [] ZS := by
 intro pins s σ H vs us Q I r h
 obtain ⟨e, h⟩ := h
 subst e
 cases r
 exact assignInOrder_nil ⟨σ, H, I, h⟩
theorem JL {e : Expr} {es : List Expr} {t : TG} {u : TGs} (h1 : PG X e t) (h2 : PGs X es u)
 (hs : (assignEach (e :: es) X.env).map (·.2) = assign e X.env :: (assignEach es X.env).map (·.2) := by rfl) : PGs X (e :: es) (PU t u) := by
 intro pins s σ H vs us Q I r h
 obtain ⟨v, vr, e1, h⟩ := h
 subst e1
 cases r with
 | cons r rr =>
  rw [hs]
  refine assignInOrder_cons (thn (h1 pins s σ H _ _ _ I r h) fun _ s1 ⟨σ1, H1, I1, q1⟩ => ?_)
  exact h2 pins s1 σ1 H1 _ _ Q I1 rr q1
def WL (K : PySem.W.Frag) (n : Nat) (t : TGs) : TG := fun v σ H Q => ∃ a xs, v = .ref a /\ SqT K H a xs /\ xs.length = n /\ t xs σ H Q
theorem SX {es : List Expr} {k : Nat} {t : TGs} {n : Nat} (hc : X.calm = true) (h : PGs X es t)
 (hn : (assignEach es X.env).length = n := by rfl) (hst : (assignEach es X.env).findIdx? (·.1) = none := by rfl) : PG X (.Tuple es k pos) (WL X.K n t) := by
 intro pins s σ H v u Q I r hw
 obtain ⟨a, xs, e1, hq, hl, hw⟩ := hw
 subst e1
 cases r
 obtain ⟨its, rv, ht, hz⟩ := I.tuple hq
 refine assign_Tuple_tuple (I.ok.hd hc) ht (by simp [hn, <- hl, rv.length]) hst fun h' hx => ?_
 have I1 : Inv X pins σ H { s with heap := h' } := I.kept (t' := s.toks) fun b o e => hx b o (Nat.ne_of_lt (Heap.lt_size e)) e
 exact h pins _ σ H xs _ Q I1 (by simpa using rv) hw
def XY (to ti : TE) (t : ON) : TG := fun v σ H Q => to σ H fun o H1 => ti σ H1 fun i H2 => t o i v H2 fun H3 => Q σ H3
theorem WE {o i : Expr} {to ti : TE} {t : ON} (ho : PE X o to) (hi : PE X i ti) (hs : UH X t)
 (ha : ∀ v, assign (.Subscript o i pos) X.env v = (do
  let ov <- holding [v] (eval o X.env)
  let iv <- holding [v, ov] (eval i X.env)
  standAt pos
  holding [v, ov, iv] (setItem ov iv v)
  release [v, ov, iv] []) := by intro _; rfl) : PG X (.Subscript o i pos) (XY to ti t) := by
 intro pins s σ H v u Q I r h
 rw [ha]
 refine wpAny_bind (wpAny_holding (thn (ho pins s σ H _ I h) fun ov s1 ⟨x, H1, I1, r1, q1⟩ => ?_))
 refine wpAny_bind (wpAny_holding (thn (hi pins s1 σ H1 _ I1 q1) fun iv s2 ⟨y, H2, I2, r2, q2⟩ => ?_))
 refine wpAny_bind (wpAny_standAt (wpAny_bind (wpAny_holding (thn (hs pins s2 σ H2 x y v ov iv u _ I2 r1 r2 r q2) fun _ s3 ⟨H3, I3, q3⟩ => ?_))))
 exact wpAny_release ⟨σ, H3, I3, q3⟩
def II (te : TE) (g : TG) : TS := fun D σ H => te σ H fun x H1 => g x σ H1 D.nx
theorem VW {tg e : Expr} {te : TE} {g : TG} (he : PE X e te) (hg : PG X tg g) (hs : swapsWithSole [tg] e pos.line X.env = pure false := by rfl) (hw : swappedStores [tg] e X.env = pure none := by rfl)
 (h1 : (assignEach [tg] X.env).map (·.2) = [assign tg X.env] := by rfl) : PS X (.Assign [tg] e pos) (II te g) := by
 intro pins s σ H D I h
 refine wpAny_Assign_stores (thn (he pins s σ H _ I h) fun v s1 ⟨x, H1, I1, r1, q1⟩ => ?_) hs hw
 rw [h1]
 exact thn (hg pins s1 σ H1 x v _ I1 r1 q1) fun _ s2 q => q
theorem SU {i : Nat} {x : Str} {e : Expr} {te : TE} {pos' : Pos} (hN : X.N.Nodup) (hi : X.N[i]? = some x) (hx : Loc X.env.scope x) (he : PE X e te) (hs : swapsWith e (some (.Name x pos')) pos.line X.env = pure false := by rfl) (hf : X.fn x = true \/ X.env.scope.names.lookup x = some .local := by first | exact .inl rfl | exact .inr rfl | assumption) :
 PS X (.Assign [.Name x pos'] e pos) (II te (pZ i)) := by
 intro pins s σ H D I h
 refine wpAny_Assign_Name (thn (he pins s σ H _ I h) fun v s1 ⟨y, H1, I1, r1, q1⟩ => ?_) hs
 exact lN I1 hN hi hx r1 (fun s2 I2 => ⟨_, H1, I2, q1⟩) hf
def ZO (i j : Nat) (ta : TA) : TS := fun D σ H => ta σ H fun vs H1 => ∃ v w, vs = [v, w] /\ D.nx ((σ.set i (some v)).set j (some w)) H1
theorem WC {i j : Nat} {x y : Str} {a b : Expr} {ta : TA} {px py pt : Pos} {kt k2 pt2} (hc : X.calm = true) (hN : X.N.Nodup) (hi : X.N[i]? = some x) (hj : X.N[j]? = some y) (hij : i ≠ j)
 (hx : X.env.scope.names.lookup x = some .local) (hy : X.env.scope.names.lookup y = some .local) (ha : PA X [a, b] ta)
 (hw : swappedStores [.Tuple [.Name x px, .Name y py] kt pt] (.Tuple [a, b] k2 pt2) X.env = pure (some [x, y]))
 (hs : swapsWithSole [.Tuple [.Name x px, .Name y py] kt pt] (.Tuple [a, b] k2 pt2) pos.line X.env = pure false := by rfl) :
 PS X (.Assign [.Tuple [.Name x px, .Name y py] kt pt] (.Tuple [a, b] k2 pt2) pos) (ZO i j ta) := by
 intro pins s σ H D I h
 rw [exec_Assign_arm]
 refine wpAny_bind (wpAny_standAt ?_)
 rw [hs]
 refine wpAny_bind (wpAny_pure ?_)
 rw [if_neg (by decide)]
 refine wpAny_bind (Tuple_ (thn (ha _ pins s σ H _ I h) fun us s1 ⟨vs, H1, I1, r1, q1⟩ => ?_))
 obtain ⟨v, w, e1, q1⟩ := q1
 subst e1
 obtain ⟨u1, u2, rfl, rv, rw'⟩ : ∃ u1 u2, us = [u1, u2] /\ RelV v u1 /\ RelV w u2 := by
  cases r1 with
  | cons p q =>
   cases q with
   | cons p' q' =>
    cases q'
    exact ⟨_, _, rfl, p, p'⟩
 refine wpAny_newObj_type ?_ (by show 2 <= sizeLine; decide)
 have I2 : Inv X pins σ H1 { s1 with heap := s1.heap.push { cls := .type "tuple", data := .seq [u1, u2].toArray } } := I1.kept (t' := s1.toks) fun b o e => Heap.get?_push_of_some _ e
 rw [hw]
 refine wpAny_bind (wpAny_pure ?_)
 show wpAny (model X.prog X.w) X.A (do rule "assign.swapped-stores"; let items <- unpackItems (.ref s1.heap.objs.size) 2 none; assignInOrder [fun v => bindName X.env y v, fun v => bindName X.env x v] items.reverse; pure Flow.next) _ _ _
 refine wpAny_bind (wpAny_rule (wpAny_bind (unpackItems_tuple (items := #[u1, u2]) (I.ok.hd hc) (IsTup.new s1.heap _) fun h' hx' => ?_)))
 have I3 := I2.kept (h' := h') (t' := s1.toks) fun b o e => hx' b o (Nat.ne_of_lt (Heap.lt_size e)) e
 show wpAny _ _ (assignInOrder [fun v => bindName X.env y v, fun v => bindName X.env x v] [u2, u1] >>= fun _ => pure Flow.next) _ _ _
 refine wpAny_bind (assignInOrder_cons (wpAny_bindName (lN I3 hN hj (.inl hy) rw' (fun s2 I4 => ?_) (.inr hy))))
 refine assignInOrder_cons (wpAny_bindName (lN I4 hN hi (.inl hx) rv (fun s3 I5 => assignInOrder_nil (wpAny_pure ?_)) (.inr hx)))
 rw [List.set_comm _ _ (Ne.symm hij)] at I5
 exact ⟨_, H1, I5, q1⟩
end
section
variable {X : Cx} {pos : Pos}
def GD (c : TT) (tb : TS) : TS := fun D σ H => ∃ W : Nat -> St -> Hp -> Prop, (∃ m, W m σ H) /\ ∀ m σ H, W m σ H ->
 c σ H fun b H1 => if b = true then ∃ N : St -> Hp -> Prop, (∀ σ' H', N σ' H' -> ∃ m', m' < m /\ W m' σ' H') /\ tb { D with nx := N, ct := N, bk := D.nx } σ H1 else D.nx σ H1
theorem JE {c : Expr} {body : List Stmt} {tc : TT} {tb : TS} (hp : PassesOwn (model X.prog X.w) X.A X.env X.xe) (hc : PT X c tc) (hb : PSs X body tb) : PS X (.While c body [] pos) (GD tc tb) := by
 intro pins s σ H D I h
 obtain ⟨W, ⟨m0, w0⟩, turn⟩ := h
 refine wpAny_While (codeAny_whileLoop (fun n s' => ∃ σ' H', Inv X pins σ' H' s' /\ W n σ' H') ?_ m0 ⟨σ, H, I, w0⟩)
 rintro n s1 ⟨σ1, H1, I1, w1⟩
 refine wpAny_passesOwn hp (thn (hc pins s1 σ1 H1 _ I1 (turn n σ1 H1 w1)) fun b s2 ⟨H2, I2, q2⟩ => ?_)
 cases b with
 | true =>
  obtain ⟨N, hN, q2⟩ := q2
  rw [if_pos rfl]
  refine wpAny_passesOwn hp (thn (hb pins s2 σ1 H2 _ I2 q2) fun f s3 q3 => ?_)
  cases f with
  | next =>
   obtain ⟨σ3, H3, I3, n3⟩ := q3
   obtain ⟨m', hm, w3⟩ := hN σ3 H3 n3
   exact ⟨m', hm, σ3, H3, I3, w3⟩
  | cont =>
   obtain ⟨σ3, H3, I3, n3⟩ := q3
   obtain ⟨m', hm, w3⟩ := hN σ3 H3 n3
   exact ⟨m', hm, σ3, H3, I3, w3⟩
  | brk => exact q3
  | ret v => exact q3
 | false =>
  rw [if_neg Bool.false_ne_true]
  exact wpAny_execs_nil ⟨σ1, H2, I2, q2⟩
end
structure It where
 go : Nat -> Hp -> Prop
 yld : Nat -> Hp -> V -> Hp -> Prop
 stop : Nat -> Hp -> Prop
def kI (X : Cx) (pins : List (Addr × Obj)) (H : Hp) (b : Addr) : Prop :=
 H b = none /\ b ≠ X.env.locals /\ b ∉ X.fs /\ (b ∈ X.ex \/ X.s₀.heap.objs.size <= b) /\ (∀ x c, X.env.cells.lookup x = some c -> c ≠ b) /\ ∀ p ∈ X.pn ++ pins, p.1 ≠ b
theorem Inv.fpOk {X : Cx} {pins : List (Addr × Obj)} {σ : St} {H H' : Hp} {s : Shared} {b : Addr} (I : Inv X pins σ H s) (hb : s.heap.objs.size <= b) (hn : H' b = none) : kI X pins H' b := by
 refine ⟨hn, Nat.ne_of_gt (Nat.lt_of_lt_of_le I.lt hb), I.nofs hb, .inr (Nat.le_trans I.sz hb), fun x c e z => ?_, fun p hp z => ?_⟩
 · obtain ⟨v, q⟩ := I.cell x c e
   exact absurd (Nat.lt_of_lt_of_le q.lt (by rw [z]; exact hb)) (Nat.lt_irrefl _)
 · exact absurd (Nat.lt_of_lt_of_le (Heap.lt_size (I.pin p hp).1) (by rw [z]; exact hb)) (Nat.lt_irrefl _)
structure Turn (P : Program) (w : World) (K : PySem.W.Frag) (tg : Expr) (J : It) (fp : List Addr) (it : Addr) (tn : Nat -> Heap -> Prop) : Prop where
 mem : it ∈ fp
 obj : ∀ i h, tn i h -> ∀ b ∈ fp, ∃ o, h.get? b = some o /\ ∀ v, o.data ≠ .cell v
 keep : ∀ i h h', tn i h -> (∀ b ∈ fp, ∀ o, h.get? b = some o -> h'.get? b = some o) -> tn i h'
 item : ∀ (X : Cx), X.prog = P -> X.w = w -> X.K = K -> X.calm = true -> ∀ (i : Nat) (pins : List (Addr × Obj)) (s : Shared) (σ : St) (H : Hp) (E : Value -> Shared -> Prop), Inv X pins σ H s -> (∀ b ∈ fp, kI X pins H b) -> tn i s.heap -> J.go i H ->
  wpAny (model P w) X.A (pyNext (.ref it)) (fun r s1 => ∃ u, r = some u /\
   wpAny (model P w) X.A (letOwnedTupleGo tg (.ref it) u) (fun _ s2 => ∃ x H', Inv X pins σ H' s2 /\ RelV x u /\ J.yld i H x H' /\ tn (i + 1) s2.heap /\ ∀ b ∈ fp, H' b = none) E s1) E s
 done : ∀ (X : Cx), X.prog = P -> X.w = w -> X.K = K -> X.calm = true -> ∀ (i : Nat) (pins : List (Addr × Obj)) (s : Shared) (σ : St) (H : Hp) (E : Value -> Shared -> Prop), Inv X pins σ H s -> (∀ b ∈ fp, kI X pins H b) -> tn i s.heap -> J.stop i H ->
  wpAny (model P w) X.A (pyNext (.ref it)) (fun r s1 => r = none /\ Inv X pins σ H s1) E s
 self : ∀ (A : Around) (i : Nat) (s : Shared) (Q : Value -> Shared -> Prop) (E : Value -> Shared -> Prop), tn i s.heap -> Q (.ref it) s -> wpAny (model P w) A (pyIter (.ref it)) Q E s
abbrev TI := St -> Hp -> (It -> Hp -> Prop) -> Prop
def PIE (X : Cx) (pins : List (Addr × Obj)) (σ : St) (tg : Expr) (R : It -> Hp -> Prop) (itv : Value) (s2 : Shared) : Prop :=
 ∃ (it : Addr) (fp : List Addr) (tn : Nat -> Heap -> Prop) (J : It) (H' : Hp), itv = .ref it /\ Inv X pins σ H' s2 /\ Turn X.prog X.w X.K tg J fp it tn /\ tn 0 s2.heap /\ (∀ b ∈ fp, kI X pins H' b) /\ R J H'
def PI (X : Cx) (tg iter : Expr) (wi : TI) : Prop :=
 ∀ (pins : List (Addr × Obj)) (s : Shared) (σ : St) (H : Hp) (R : It -> Hp -> Prop), Inv X pins σ H s -> wi σ H R ->
  wpAny (model X.prog X.w) X.A (eval iter X.env) (fun v s1 => wpAny (model X.prog X.w) X.A (pyIter v) (PIE X pins σ tg R) X.xe s1) X.xe s
theorem IB {M : Model} {A : Around} {E : Value -> Shared -> Prop} {s : Shared} {tg : Expr} {it : Addr} {u : Value} {o : Obj} {n : String} {vs : Array Value} {Q : Unit -> Shared -> Prop} (ho : s.heap.get? it = some o) (hc : o.cls = .type n) (hd : o.data = .fields vs)
 (hn : ["enumerate", "zip", "dict_itemiterator", "dict_reverseitemiterator", "odict_iterator", "itertools.zip_longest", "itertools.pairwise"].contains n = false) (hQ : Q () s) : wpAny M A (letOwnedTupleGo tg (.ref it) u) Q E s := by
 unfold letOwnedTupleGo
 cases tg <;> first
  | exact wpAny_pure hQ
  | (cases u <;> first
   | exact wpAny_pure hQ
   | (refine wpAny_bind (wpAny_load ho ?_)
      rw [hc, hd]
      show wpAny M A (if (["enumerate", "zip", "dict_itemiterator", "dict_reverseitemiterator", "odict_iterator", "itertools.zip_longest", "itertools.pairwise"].contains n && vs[0]? == some (rawInt _)) = true then _ else _) Q E s
      rw [if_neg (by intro h; rw [hn, Bool.false_and] at h; cases h)]
      exact wpAny_pure hQ))
def Itl (K : PySem.W.Frag) (a : Addr) : It :=
 ⟨fun i H => ∃ xs x, SqL K H a xs /\ xs[i]? = some x, fun i H x H' => H' = H /\ ∀ xs, SqL K H a xs -> xs[i]? = some x, fun i H => ∃ xs, SqL K H a xs /\ xs.length <= i⟩
def Itt (K : PySem.W.Frag) (a : Addr) : It :=
 ⟨fun i H => ∃ xs x, SqT K H a xs /\ xs[i]? = some x, fun i H x H' => H' = H /\ ∀ xs, SqT K H a xs -> xs[i]? = some x, fun i H => ∃ xs, SqT K H a xs /\ xs.length <= i⟩
def Itr (lo : Int) (n : Nat) : It := ⟨fun i _ => i < n, fun i H x H' => H' = H /\ x = .int (lo + i), fun i _ => n <= i⟩
theorem BU {P : Program} {w : World} {K : PySem.W.Frag} {tg : Expr} (a it : Addr) : Turn P w K tg (Itl K a) [it] it (fun i h => h.IsListIter it a i) where
 mem := by simp
 obj := fun i h st b hb => by
  have e : b = it := by simpa using hb
  subst e
  obtain ⟨o, e, c, d⟩ := st
  exact ⟨o, e, fun v z => by rw [d] at z; cases z⟩
 keep := fun i h h' st k => st.at fun o e => k it (by simp) o e
 item := by
  intro X hP hw hK hc i pins s σ H E I hf st hg
  subst hP hw hK
  obtain ⟨xs, x, hq, hx⟩ := hg
  obtain ⟨its, rv, p, hz⟩ := I.list hq
  obtain ⟨u, hu, ru⟩ := rv.get hx
  obtain ⟨f0, f1, f2, f3, f4, f5⟩ := hf it (by simp)
  refine wpAny_pyNext_list_item st p.isList (x := u) (by simpa using hu) fun h' st' sb => ?_
  have I1 : Inv X pins σ H { s with heap := h' } := I.turned (t' := s.toks) (fun b o hb e => (sb.2 b hb).trans e) f0 f1 f3 f4 f5
  obtain ⟨o, e, c, d⟩ := id st'
  exact ⟨u, rfl, IB (s := { s with heap := h' }) e c d (by decide) ⟨x, H, I1, ru, ⟨rfl, fun ys hy => by rw [I.list_inj hy hq]; exact hx⟩, st', fun b hb => (hf b hb).1⟩⟩
 done := by
  intro X hP hw hK hc i pins s σ H E I hf st hg
  subst hP hw hK
  obtain ⟨xs, hq, hx⟩ := hg
  obtain ⟨its, rv, p, hz⟩ := I.list hq
  obtain ⟨f0, f1, f2, f3, f4, f5⟩ := hf it (by simp)
  have hl := rv.length
  exact wpAny_pyNext_list_end (I.ok.hd hc) st p.isList (by simp; omega) fun h' eb => ⟨rfl, I.turned (t' := s.toks) (fun b o hb e => eb b o hb e) f0 f1 f3 f4 f5⟩
 self := fun _ _ _ _ _ st h => wpAny_pyIter_listiter st h
theorem yX {P : Program} {w : World} {K : PySem.W.Frag} {tg : Expr} (a it : Addr) : Turn P w K tg (Itt K a) [it] it (fun i h => h.IsTupleIter it a i) where
 mem := by simp
 obj := fun i h st b hb => by
  have e : b = it := by simpa using hb
  subst e
  obtain ⟨o, e, c, d⟩ := st
  exact ⟨o, e, fun v z => by rw [d] at z; cases z⟩
 keep := fun i h h' st k => st.at fun o e => k it (by simp) o e
 item := by
  intro X hP hw hK hc i pins s σ H E I hf st hg
  subst hP hw hK
  obtain ⟨xs, x, hq, hx⟩ := hg
  obtain ⟨its, rv, p, hz⟩ := I.tuple hq
  obtain ⟨u, hu, ru⟩ := rv.get hx
  obtain ⟨f0, f1, f2, f3, f4, f5⟩ := hf it (by simp)
  refine wpAny_pyNext_tuple_item st (show s.heap.IsTuple a its.toArray from p) (x := u) (by simpa using hu) fun h' st' sb => ?_
  have I1 : Inv X pins σ H { s with heap := h' } := I.turned (t' := s.toks) (fun b o hb e => (sb.2 b hb).trans e) f0 f1 f3 f4 f5
  obtain ⟨o, e, c, d⟩ := id st'
  exact ⟨u, rfl, IB (s := { s with heap := h' }) e c d (by decide) ⟨x, H, I1, ru, ⟨rfl, fun ys hy => by rw [I.tuple_inj hy hq]; exact hx⟩, st', fun b hb => (hf b hb).1⟩⟩
 done := by
  intro X hP hw hK hc i pins s σ H E I hf st hg
  subst hP hw hK
  obtain ⟨xs, hq, hx⟩ := hg
  obtain ⟨its, rv, p, hz⟩ := I.tuple hq
  obtain ⟨f0, f1, f2, f3, f4, f5⟩ := hf it (by simp)
  have hl := rv.length
  exact wpAny_pyNext_tuple_end (I.ok.hd hc) st (show s.heap.IsTuple a its.toArray from p) (by simp; omega) fun h' eb => ⟨rfl, I.turned (t' := s.toks) (fun b o hb e => eb b o hb e) f0 f1 f3 f4 f5⟩
 self := fun _ _ _ _ _ st h => wpAny_pyIter_tupleiter st h
theorem xU {P : Program} {w : World} {K : PySem.W.Frag} {tg : Expr} (it : Addr) (lo : Int) (n : Nat) : Turn P w K tg (Itr lo n) [it] it (fun i h => IsRangeIter h it (lo + (i : Nat) * 1) ((n : Int) - (i : Nat)) 1) where
 mem := by simp
 obj := fun i h st b hb => by
  have e : b = it := by simpa using hb
  subst e
  exact ⟨_, st, fun v z => by
   have z' : Data.fields _ = Data.cell v := z
   cases z'⟩
 keep := fun i h h' st k => k it (by simp) _ st
 item := by
  intro X hP hw hK hc i pins s σ H E I hf st hg
  subst hP hw hK
  obtain ⟨f0, f1, f2, f3, f4, f5⟩ := hf it (by simp)
  have W := Walks.range (prog := X.prog) (w := X.w) (I.ok.hd hc) it lo 1 n
  refine W.item i s _ _ hg st fun v h' tk hv st' kk => ?_
  obtain ⟨t, rfl⟩ := hv
  have I1 : Inv X pins σ H { s with heap := h', toks := tk } := I.turned (fun b o hb e => kk b o (by simpa using hb) e) f0 f1 f3 f4 f5
  refine ⟨_, rfl, IB (s := { s with heap := h', toks := tk }) (n := "range_iterator") st' rfl rfl (by decide) ⟨.int (lo + i), H, I1, ⟨t, ?_⟩, ⟨rfl, rfl⟩, st', fun b hb => (hf b hb).1⟩⟩
  rw [Int.mul_one]
 done := by
  intro X hP hw hK hc i pins s σ H E I hf st hg
  subst hP hw hK
  obtain ⟨f0, f1, f2, f3, f4, f5⟩ := hf it (by simp)
  exact wpAny_pyNext_range_end (I.ok.hd hc) st (by have : n <= i := hg; omega) fun h' eb => ⟨rfl, I.turned (t' := s.toks) (fun b o hb e => eb b o hb e) f0 f1 f3 f4 f5⟩
 self := fun _ _ _ _ _ st h => wpAny_pyIter_rangeiter st h
end L2
namespace L2
open PySem PySem.Spec PyProof.Rows
section
variable {X : Cx} {tg : Expr}
theorem HZ {pins : List (Addr × Obj)} {σ : St} {H : Hp} {s : Shared} {R : It -> Hp -> Prop} {E : Value -> Shared -> Prop} {lo hi : Int} {t u v : Tok} {tk : Nat} (I : Inv X pins σ H s) (h1 : -(2 ^ 62) <= lo) (h2 : lo < 2 ^ 62) (h3 : -(2 ^ 62) <= hi) (h4 : hi < 2 ^ 62)
 (q : R (Itr lo (hi - lo).toNat) H) : wpAny (model X.prog X.w) X.A (pyIter (.ref s.heap.objs.size)) (PIE X pins σ tg R) E { s with heap := s.heap.push { cls := .type "range", data := .fields #[.int lo t, .int hi u, .int 1 v] }, toks := tk } := by
 refine wpAny_pyIter_range (IsRange.new ..) (small_one h1 h2 h3 h4) ?_
 have I1 : Inv X pins σ H { s with heap := s.heap.push { cls := .type "range", data := .fields #[.int lo t, .int hi u, .int 1 v] }, toks := tk } := I.kept fun b o e => Heap.get?_push_of_some _ e
 refine ⟨(s.heap.push { cls := .type "range", data := .fields #[.int lo t, .int hi u, .int 1 v] }).objs.size, [(s.heap.push { cls := .type "range", data := .fields #[.int lo t, .int hi u, .int 1 v] }).objs.size], _, _, H, rfl,
  I1.kept (t' := tk) fun b o e => Heap.get?_push_of_some _ e, xU _ lo (hi - lo).toNat, ?_, fun b hb => ?_, q⟩
 · have e1 : lo + ((0 : Nat) : Int) * 1 = lo := by simp
   have e2 : (((hi - lo).toNat : Nat) : Int) - ((0 : Nat) : Int) = Builtin.Range.rangeSize lo hi 1 := by rw [rangeSize_one]; split <;> omega
   show IsRangeIter _ _ (lo + ((0 : Nat) : Int) * 1) ((((hi - lo).toNat : Nat) : Int) - ((0 : Nat) : Int)) 1
   rw [e1, e2]
   exact Heap.get?_push_size _ rfl
 · have e : b = (s.heap.push { cls := .type "range", data := .fields #[.int lo t, .int hi u, .int 1 v] }).objs.size := by simpa using hb
   subst e
   exact I1.fpOk (Nat.le_refl _) (I1.hok.fresh (Nat.le_refl _))
def PB (ta : TA) : TI := fun σ H R => ta σ H fun vs H1 => ∃ j : Int, vs = [.int j] /\ -(2 ^ 62) <= j /\ j < 2 ^ 62 /\ R (Itr 0 j.toNat) H1
theorem BV {a : Expr} {ta : TA} {p pos : Pos} (hg : Gl X "range") (hm : X.mg "range" = none) (ha : PA X [a] ta) (hs : starEach [a] X.env = [(false, eval a X.env)] := by rfl) : PI X tg (.Call (.Name "range" p) [a] [] pos) (PB ta) := by
 intro pins s σ H R I h
 refine Call_ (jO I hg hm boot_range (PyProof.Rows.callWith_type1 (thn (ha pos pins s σ H _ I h) fun us s1 ⟨vs, H1, I1, r1, q1⟩ => ?_) hs rfl))
 obtain ⟨j, e, q1, q2, q⟩ := q1
 subst e
 cases r1 with
 | cons r rr =>
  cases rr
  obtain ⟨t, rfl⟩ := r
  exact call_range_1 (HZ I1 (by omega) (by omega) q1 q2 (by simpa using q))
def UD (wi : TI) (g : TG) (tb : TS) : TS := fun D σ H => wi σ H fun J H1 => ∃ W : Nat -> Nat -> St -> Hp -> Prop, (∃ m, W 0 m σ H1) /\ ∀ i m σ H, W i m σ H ->
 (J.stop i H /\ D.nx σ H) \/ (J.go i H /\ ∃ N : St -> Hp -> Prop, (∀ σ' H', N σ' H' -> ∃ m', m' < m /\ W (i + 1) m' σ' H') /\ ∀ x H', J.yld i H x H' -> g x σ H' fun σ2 H2 => tb { D with nx := N, ct := N, bk := D.nx } σ2 H2)
def mE (fp : List Addr) (h : Heap) : List (Addr × Obj) := fp.filterMap fun b => (h.get? b).map fun o => (b, o)
theorem eI {fp : List Addr} {h : Heap} {b : Addr} {o : Obj} (hb : b ∈ fp) (e : h.get? b = some o) : (b, o) ∈ mE fp h := List.mem_filterMap.mpr ⟨b, hb, by rw [e]; rfl⟩
theorem CU {fp : List Addr} {h : Heap} {p : Addr × Obj} (hp : p ∈ mE fp h) : p.1 ∈ fp /\ h.get? p.1 = some p.2 := by
 obtain ⟨b, hb, e⟩ := List.mem_filterMap.mp hp
 cases q : h.get? b with
 | none => rw [q] at e; cases e
 | some o =>
  rw [q] at e
  have e' : (b, o) = p := Option.some.inj e
  subst e'
  exact ⟨hb, q⟩
theorem Inv.pinned {pins : List (Addr × Obj)} {σ : St} {H : Hp} {s : Shared} {fp : List Addr} (I : Inv X pins σ H s) (hf : ∀ b ∈ fp, kI X pins H b) (ho : ∀ b ∈ fp, ∃ o, s.heap.get? b = some o /\ ∀ v, o.data ≠ .cell v) : Inv X (pins ++ mE fp s.heap) σ H s :=
 I.pins_of fun p hp => (List.mem_append.mp hp).elim (fun z => I.pin p (List.mem_append_right _ z)) fun z => by
  obtain ⟨hb, e⟩ := CU z
  obtain ⟨f0, f1, f2, _⟩ := hf p.1 hb
  obtain ⟨o, e', d⟩ := ho p.1 hb
  rw [e] at e'; cases e'
  exact ⟨e, f0, f1, f2, d⟩
theorem Inv.unpinned {pins pl : List (Addr × Obj)} {σ : St} {H : Hp} {s : Shared} (I : Inv X (pins ++ pl) σ H s) : Inv X pins σ H s := I.pins_of fun p hp => I.pin p (List.mem_append_right _ (List.mem_append_left _ hp))
theorem FE {iter : Expr} {body : List Stmt} {wi : TI} {g : TG} {tb : TS} {pos : Pos} (hp : PassesOwn (model X.prog X.w) X.A X.env X.xe) (hc : X.calm = true) (hi : PI X tg iter wi) (hg : PG X tg g) (hb : PSs X body tb)
 (hs : ∀ x, foldedSetIterable iter X.env x = pure x := by intro _; rfl) : PS X (.For tg iter body [] pos) (UD wi g tb) := by
 intro pins s σ H D I h
 refine wpAny_For (thn (hi pins s σ H _ I h) fun v s1 h1 => thn h1 fun itv s2 h2 => ?_) hs
 obtain ⟨it, fp, tn, J, H2, e, I2, T, st2, f2, W, ⟨m0, w0⟩, turn⟩ := h2
 subst e
 have stat : ∀ {H' : Hp}, (∀ b ∈ fp, H' b = none) -> ∀ b ∈ fp, kI X pins H' b := fun hn b hb => ⟨hn b hb, (f2 b hb).2⟩
 refine codeAny_forLoop_any (fun n s' => ∃ i σ' H', Inv X pins σ' H' s' /\ tn i s'.heap /\ (∀ b ∈ fp, H' b = none) /\ W i n σ' H') ?_ m0 ⟨0, σ, H2, I2, st2, fun b hb => (f2 b hb).1, w0⟩
 rintro n s3 ⟨i, σ3, H3, I3, st3, fr3, w3⟩
 rcases turn i n σ3 H3 w3 with ⟨stop, qn⟩ | ⟨go, N, hN, step⟩
 · refine wpAny_passesOwn hp (thn (T.done X rfl rfl rfl hc i pins s3 σ3 H3 X.xe I3 (stat fr3) st3 stop) fun r s4 ⟨hr, I4⟩ => ?_)
   subst hr
   exact wpAny_execs_nil ⟨σ3, H3, I4, qn⟩
 · refine wpAny_passesOwn hp (thn (T.item X rfl rfl rfl hc i pins s3 σ3 H3 X.xe I3 (stat fr3) st3 go) fun r s4 ⟨u, hr, h4⟩ => ?_)
   subst hr
   refine wpAny_passesOwn hp (thn h4 fun _ s5 ⟨x, H5, I5, r5, y5, st5, fr5⟩ => ?_)
   have I5' := I5.pinned (stat fr5) (T.obj _ _ st5)
   refine wpAny_passesOwn hp (thn (hg _ s5 σ3 H5 x u _ I5' r5 (step x H5 y5)) fun _ s6 ⟨σ6, H6, I6, q6⟩ => ?_)
   refine wpAny_passesOwn hp (thn (hb _ s6 σ6 H6 _ I6 q6) fun f s7 q7 => ?_)
   have again : ∀ {σ7 : St} {H7 : Hp}, Inv X (pins ++ mE fp s5.heap) σ7 H7 s7 -> N σ7 H7 -> ∃ m, m < n /\ ∃ i σ' H', Inv X pins σ' H' s7 /\ tn i s7.heap /\ (∀ b ∈ fp, H' b = none) /\ W i m σ' H' := fun {σ7 H7} I7 n7 => by
    obtain ⟨m', hm, w7⟩ := hN σ7 H7 n7
    refine ⟨m', hm, i + 1, σ7, H7, I7.unpinned, T.keep _ _ _ st5 fun b hb o e => (I7.pin (b, o) (List.mem_append_right _ (List.mem_append_right _ (eI hb e)))).1, fun b hb => ?_, w7⟩
    obtain ⟨o, e, d⟩ := T.obj _ _ st5 b hb
    exact (I7.pin (b, o) (List.mem_append_right _ (List.mem_append_right _ (eI hb e)))).2.1
   cases f with
   | next => obtain ⟨σ7, H7, I7, n7⟩ := q7; exact again I7 n7
   | cont => obtain ⟨σ7, H7, I7, n7⟩ := q7; exact again I7 n7
   | brk => obtain ⟨σ7, H7, I7, q7⟩ := q7; exact ⟨σ7, H7, I7.unpinned, q7⟩
   | ret v => obtain ⟨x7, σ7, H7, I7, r7, q7⟩ := q7; exact ⟨x7, σ7, H7, I7.unpinned, r7, q7⟩
end
end L2
namespace L2
open PySem PySem.Spec PyProof.Rows
abbrev R2 := V -> V -> Hp -> VK -> Prop
def OpR (X : Cx) (f : Value -> Value -> Sem Value) (r : R2) : Prop :=
 ∀ (pins : List (Addr × Obj)) (s : Shared) (σ : St) (H : Hp) (x y : V) (v u : Value) (Q : VK), Inv X pins σ H s -> RelV x v -> RelV y u -> r x y H Q ->
  wpAny (model X.prog X.w) X.A (f v u) (EP X pins σ Q) X.xe s
def fJ (X : Cx) (f : Value) (r : List V -> Hp -> VK -> Prop) : Prop :=
 ∀ (pins : List (Addr × Obj)) (s : Shared) (σ : St) (H : Hp) (xs : List V) (us : List Value) (Q : VK), Inv X pins σ H s -> Vals xs us -> r xs H Q ->
  wpAny (model X.prog X.w) X.A (call f us) (EP X pins σ Q) X.xe s
def ZY (X : Cx) (r : V -> Hp -> (Bool -> Hp -> Prop) -> Prop) : Prop :=
 ∀ (pins : List (Addr × Obj)) (s : Shared) (σ : St) (H : Hp) (x : V) (v : Value) (Q : Bool -> Hp -> Prop), Inv X pins σ H s -> RelV x v -> r x H Q ->
  wpAny (model X.prog X.w) X.A (truthy v) (TP X pins σ Q) X.xe s
def tOp (r : R2) (ta tb : TE) : TE := fun σ H Q => ta σ H fun x H1 => tb σ H1 fun y H2 => r x y H2 Q
def rI (C : Int -> Int -> Prop) (g : Int -> Int -> V) : R2 := fun x y H Q => ∃ i j, x = .int i /\ y = .int j /\ C i j /\ Q (g i j) H
def rI0 (g : Int -> Int -> V) : R2 := fun x y H Q => ∃ i j, x = .int i /\ y = .int j /\ Q (g i j) H
section
variable {X : Cx} {a b c : Expr} {ta tb tc : TE} {pos : Pos}
theorem TX (ha : PE X a ta) (hb : PE X b tb) {pins : List (Addr × Obj)} {s : Shared} {σ : St} {H : Hp} {R : V -> V -> Hp -> Prop} (I : Inv X pins σ H s)
 (h : ta σ H fun x H1 => tb σ H1 fun y H2 => R x y H2) {Q : Value -> Shared -> Prop} {f : Value -> Value -> Sem Value}
 (hf : ∀ v u s2 x y H2, Inv X pins σ H2 s2 -> RelV x v -> RelV y u -> R x y H2 -> wpAny (model X.prog X.w) X.A (f v u) Q X.xe s2) :
 wpAny (model X.prog X.w) X.A (eval a X.env) (fun v s₁ => wpAny (model X.prog X.w) X.A (eval b X.env) (fun u s₂ => wpAny (model X.prog X.w) X.A (f v u) Q X.xe s₂) X.xe s₁) X.xe s := by
 refine thn (ha pins s σ H _ I h) fun v s1 ⟨x, H1, I1, r1, q1⟩ => ?_
 refine thn (hb pins s1 σ H1 _ I1 q1) fun u s2 ⟨y, H2, I2, r2, q2⟩ => ?_
 exact hf v u s2 x y H2 I2 r1 r2 q2
theorem WN {op : Operator} {r : R2} (ho : OpR X (binaryOp op) r) (ha : PE X a ta) (hb : PE X b tb) : PE X (.BinOp a op b pos) (tOp r ta tb) := by
 intro pins s σ H Q I h
 exact wpAny_BinOp (TX ha hb I h fun v u s2 x y H2 I2 rx ry q => ho pins s2 σ H2 x y v u Q I2 rx ry q)
theorem opI {f : Value -> Value -> Sem Value} {C : Int -> Int -> Prop} {g : Int -> Int -> Int}
 (rule : ∀ (i j : Int) (t u : Tok) (s : Shared) (Q : Value -> Shared -> Prop) (E : Value -> Shared -> Prop), C i j -> Q (.int (g i j) s.toks) { s with toks := s.toks + 1 } -> wpAny (model X.prog X.w) X.A (f (.int i t) (.int j u)) Q E s) :
 OpR X f (rI C fun i j => .int (g i j)) := by
 intro pins s σ H x y v u Q I rx ry h
 obtain ⟨i, j, rfl, rfl, hc, q⟩ := h
 obtain ⟨t, rfl⟩ := rx
 obtain ⟨t', rfl⟩ := ry
 exact rule i j t t' s _ _ hc ⟨.int (g i j), H, I.tok _, ⟨_, rfl⟩, q⟩
theorem YA {f : Value -> Value -> Sem Value} {g : Int -> Int -> Int}
 (rule : ∀ (i j : Int) (t u : Tok) (s : Shared) (Q : Value -> Shared -> Prop) (E : Value -> Shared -> Prop), Q (.int (g i j) s.toks) { s with toks := s.toks + 1 } -> wpAny (model X.prog X.w) X.A (f (.int i t) (.int j u)) Q E s) :
 OpR X f (rI0 fun i j => .int (g i j)) := by
 intro pins s σ H x y v u Q I rx ry h
 obtain ⟨i, j, rfl, rfl, q⟩ := h
 obtain ⟨t, rfl⟩ := rx
 obtain ⟨t', rfl⟩ := ry
 exact rule i j t t' s _ _ ⟨.int (g i j), H, I.tok _, ⟨_, rfl⟩, q⟩
theorem MZ {f : Value -> Value -> Sem Value} {g : Int -> Int -> Bool}
 (rule : ∀ (i j : Int) (t u : Tok) (s : Shared) (Q : Value -> Shared -> Prop) (E : Value -> Shared -> Prop), Q (.bool (g i j)) s -> wpAny (model X.prog X.w) X.A (f (.int i t) (.int j u)) Q E s) :
 OpR X f (rI0 fun i j => .bl (g i j)) := by
 intro pins s σ H x y v u Q I rx ry h
 obtain ⟨i, j, rfl, rfl, q⟩ := h
 obtain ⟨t, rfl⟩ := rx
 obtain ⟨t', rfl⟩ := ry
 exact rule i j t t' s _ _ ⟨.bl (g i j), H, I, rfl, q⟩
def ZN (i j : Int) : Prop := 0 <= j /\ j <= 1000000 /\ i.natAbs < 2 ^ 64
def CMul (i j : Int) : Prop := (-(2 ^ 64) < i /\ i < 2 ^ 64) \/ (-(2 ^ 64) < j /\ j < 2 ^ 64)
theorem CMul.ok {i j : Int} (h : CMul i j) : IntMulOk i j := by
 rcases h with ⟨h1, h2⟩ | ⟨h1, h2⟩
 · exact .of_left (intBits_le_64 h1 h2)
 · exact .of_right (intBits_le_64 h1 h2)
theorem op_add : OpR X (binaryOp .Add) (rI0 fun i j => .int (i + j)) := YA fun _ _ _ _ _ _ _ q => add_int q
theorem VM : OpR X (binaryOp .Sub) (rI0 fun i j => .int (i - j)) := YA fun _ _ _ _ _ _ _ q => sub_int q
theorem VR : OpR X (binaryOp .Mod) (rI (fun _ j => 0 < j) fun i j => .int (i % j)) := opI fun i j _ _ _ _ _ hc q => by
 have h1 : (0 : Int) < j := hc
 exact mod_int' (by omega) (by rw [Int.fmod_eq_emod_of_nonneg i (by omega)]; exact q)
theorem UC : OpR X (binaryOp .Pow) (rI ZN fun i j => .int (i ^ j.toNat)) := opI fun _ _ _ _ _ _ _ hc q => pow_int_small hc.1 hc.2.1 hc.2.2 q
end
def ZD : V -> V -> Bool
 | .non, .non => true | .non, .int _ => true | .int _, .non => true | .non, .bl _ => true | .bl _, .non => true | .non, .str _ => true | .str _, .non => true
 | .int _, .int _ => true | .bl _, .bl _ => true | .str _, .str _ => true | .byt _, .byt _ => true
 | .int _, .str _ => true | .str _, .int _ => true | .bl _, .str _ => true | .str _, .bl _ => true
 | _, _ => false
def rEq : R2 := fun x y H Q => ZD x y = true /\ Q (.bl (decide (x = y))) H
def rNe : R2 := fun x y H Q => ZD x y = true /\ Q (.bl (!decide (x = y))) H
theorem AI {i j : Int} : decide (V.int i = V.int j) = (i == j) := by
 rw [Bool.eq_iff_iff]
 simp
theorem FU {i j : Bool} : decide (V.bl i = V.bl j) = (i == j) := by
 rw [Bool.eq_iff_iff]
 simp
theorem zY {i j : Str} : decide (V.str i = V.str j) = (i == j) := by
 rw [Bool.eq_iff_iff]
 simp
theorem AZ {i j : Array UInt8} : decide (V.byt i = V.byt j) = (i.toList == j.toList) := by
 rw [Bool.eq_iff_iff]
 cases i
 cases j
 simp
section
variable {X : Cx} {a b c : Expr} {ta tb tc : TE} {pos : Pos}
theorem bC {pins : List (Addr × Obj)} {σ : St} {H : Hp} {s : Shared} {Q : VK} {k k' : Bool} (I : Inv X pins σ H s) (q : Q (.bl k) H) (e : k = k') : EP X pins σ Q (.bool k') s := by
 subst e
 exact ⟨.bl k, H, I, rfl, q⟩
theorem op_eq : OpR X (compareOp .Eq) rEq := by
 intro pins s σ H x y v u Q I rx ry h
 obtain ⟨hs, q⟩ := h
 cases x with
 | non =>
  cases rx
  cases y with
  | non => cases ry; exact PySem.EqNone.eq_none_none (bC I q (by simp))
  | bl j => cases ry; exact PySem.EqNone.eq_none_bool (bC I q (by simp))
  | int j => obtain ⟨t', rfl⟩ := ry; exact PySem.EqNone.eq_none_int (bC I q (by simp))
  | str j => obtain ⟨t', rfl⟩ := ry; exact PySem.EqNone.eq_none_str (bC I q (by simp))
  | _ => exact absurd (show false = true from hs) Bool.false_ne_true
 | bl i =>
  cases rx
  cases y with
  | non => cases ry; exact PySem.EqNone.eq_bool_none (bC I q (by simp))
  | bl j => cases ry; exact eq_bool (bC I q FU)
  | str j => obtain ⟨t', rfl⟩ := ry; exact PySem.EqMixed.eq_bool_str (bC I q (by simp))
  | _ => exact absurd (show false = true from hs) Bool.false_ne_true
 | int i =>
  obtain ⟨t, rfl⟩ := rx
  cases y with
  | non => cases ry; exact PySem.EqNone.eq_int_none (bC I q (by simp))
  | int j => obtain ⟨t', rfl⟩ := ry; exact eq_int (bC I q AI)
  | str j => obtain ⟨t', rfl⟩ := ry; exact PySem.EqMixed.eq_int_str (bC I q (by simp))
  | _ => exact absurd (show false = true from hs) Bool.false_ne_true
 | str i =>
  obtain ⟨t, rfl⟩ := rx
  cases y with
  | non => cases ry; exact PySem.EqNone.eq_str_none (bC I q (by simp))
  | bl j => cases ry; exact PySem.EqMixed.eq_str_bool (bC I q (by simp))
  | int j => obtain ⟨t', rfl⟩ := ry; exact PySem.EqMixed.eq_str_int (bC I q (by simp))
  | str j => obtain ⟨t', rfl⟩ := ry; exact eq_str (bC I q zY)
  | _ => exact absurd (show false = true from hs) Bool.false_ne_true
 | byt i =>
  obtain ⟨t, rfl⟩ := rx
  cases y with
  | byt j => obtain ⟨t', rfl⟩ := ry; exact PySem.W.eq_bytes (bC I q AZ)
  | _ => exact absurd (show false = true from hs) Bool.false_ne_true
 | _ => cases y <;> exact absurd (show false = true from hs) Bool.false_ne_true
theorem op_ne : OpR X (compareOp .NotEq) rNe := by
 intro pins s σ H x y v u Q I rx ry h
 obtain ⟨hs, q⟩ := h
 cases x with
 | non =>
  cases rx
  cases y with
  | non => cases ry; exact PySem.EqNone.ne_none_none (bC I q (by simp))
  | bl j => cases ry; exact PySem.EqNone.ne_none_bool (bC I q (by simp))
  | int j => obtain ⟨t', rfl⟩ := ry; exact PySem.EqNone.ne_none_int (bC I q (by simp))
  | str j => obtain ⟨t', rfl⟩ := ry; exact PySem.EqNone.ne_none_str (bC I q (by simp))
  | _ => exact absurd (show false = true from hs) Bool.false_ne_true
 | bl i =>
  cases rx
  cases y with
  | non => cases ry; exact PySem.EqNone.ne_bool_none (bC I q (by simp))
  | bl j => cases ry; exact ne_bool (bC I q (congrArg not FU))
  | str j => obtain ⟨t', rfl⟩ := ry; exact PySem.EqMixed.ne_bool_str (bC I q (by simp))
  | _ => exact absurd (show false = true from hs) Bool.false_ne_true
 | int i =>
  obtain ⟨t, rfl⟩ := rx
  cases y with
  | non => cases ry; exact PySem.EqNone.ne_int_none (bC I q (by simp))
  | int j => obtain ⟨t', rfl⟩ := ry; exact ne_int (bC I q (congrArg not AI))
  | str j => obtain ⟨t', rfl⟩ := ry; exact PySem.EqMixed.ne_int_str (bC I q (by simp))
  | _ => exact absurd (show false = true from hs) Bool.false_ne_true
 | str i =>
  obtain ⟨t, rfl⟩ := rx
  cases y with
  | non => cases ry; exact PySem.EqNone.ne_str_none (bC I q (by simp))
  | bl j => cases ry; exact PySem.EqMixed.ne_str_bool (bC I q (by simp))
  | int j => obtain ⟨t', rfl⟩ := ry; exact PySem.EqMixed.ne_str_int (bC I q (by simp))
  | str j => obtain ⟨t', rfl⟩ := ry; exact ne_str (bC I q (congrArg not zY))
  | _ => exact absurd (show false = true from hs) Bool.false_ne_true
 | byt i =>
  obtain ⟨t, rfl⟩ := rx
  cases y with
  | byt j => obtain ⟨t', rfl⟩ := ry; exact PySem.W.ne_bytes (bC I q (congrArg not AZ))
  | _ => exact absurd (show false = true from hs) Bool.false_ne_true
 | _ => cases y <;> exact absurd (show false = true from hs) Bool.false_ne_true
theorem YO : OpR X (compareOp .Lt) (rI0 fun i j => .bl (decide (i < j))) := MZ fun _ _ _ _ _ _ _ q => lt_int q
theorem XD : OpR X (compareOp .LtE) (rI0 fun i j => .bl (decide (i <= j))) := MZ fun _ _ _ _ _ _ _ q => le_int q
theorem ZT : OpR X (compareOp .Gt) (rI0 fun i j => .bl (decide (j < i))) := MZ fun _ _ _ _ _ _ _ q => gt_int q
theorem XO : OpR X (compareOp .GtE) (rI0 fun i j => .bl (decide (j <= i))) := MZ fun _ _ _ _ _ _ _ q => ge_int q
theorem OpR.or {f : Value -> Value -> Sem Value} {r r' : R2} (h : OpR X f r) (h' : OpR X f r') : OpR X f (fun x y H Q => r x y H Q \/ r' x y H Q) := by
 intro pins s σ H x y v u Q I rx ry q
 rcases q with q | q
 · exact h pins s σ H x y v u Q I rx ry q
 · exact h' pins s σ H x y v u Q I rx ry q
theorem MP {op : CmpOp} {r : R2} (ho : OpR X (compareOp op) r) (ha : PE X a ta) (hb : PE X b tb) (hm : behindInMarks op b = false) : PE X (.Compare a [op] [b] pos) (tOp r ta tb) := by
 intro pins s σ H Q I h
 exact wpAny_Compare1 (TX ha hb I h fun v u s2 x y H2 I2 rx ry q => ho pins s2 σ H2 x y v u Q I2 rx ry q) hm
def PR (t : TE) : TT := fun σ H Q => t σ H fun x H' => ∃ k, x = .bl k /\ Q k H'
theorem LN {op : CmpOp} {r : R2} (ho : OpR X (compareOp op) r) (ha : PE X a ta) (hb : PE X b tb) (hm : behindInMarks op b = false) : PT X (.Compare a [op] [b] pos) (PR (tOp r ta tb)) := by
 intro pins s σ H Q I h
 refine wpAny_isTrue_Compare1 (thn (ha pins s σ H _ I h) fun v s1 ⟨x, H1, I1, r1, q1⟩ => thn (hb pins s1 σ H1 _ I1 q1) fun u s2 ⟨y, H2, I2, r2, q2⟩ =>
  thn (ho pins s2 σ H2 x y v u _ I2 r1 r2 q2) fun c s3 ⟨z, H3, I3, r3, k, e, q3⟩ => ?_) hm
 subst e
 cases r3
 exact wpAny_truthy_bool ⟨H3, I3, q3⟩
def IR (r r' : R2) (ta tb tc : TE) : TE := fun σ H Q => ta σ H fun x H1 => tb σ H1 fun y H2 => r x y H2 fun z H3 => ∃ k, z = .bl k /\
 (if k = true then tc σ H3 fun w' H4 => r' y w' H4 Q else Q (.bl false) H3)
theorem GH {op op' : CmpOp} {r r' : R2} (ho : OpR X (compareOp op) r) (ho' : OpR X (compareOp op') r') (ha : PE X a ta) (hb : PE X b tb) (hc : PE X c tc)
 (hm : lastMarks [op, op'] [b, c] = false := by with_unfolding_all rfl) : PE X (.Compare a [op, op'] [b, c] pos) (IR r r' ta tb tc) := by
 intro pins s σ H Q I h
 refine Compare_chain (thn (ha pins s σ H _ I h) fun v s1 ⟨x, H1, I1, r1, q1⟩ => chain_link (thn (hb pins s1 σ H1 _ I1 q1) fun u s2 ⟨y, H2, I2, r2, q2⟩ =>
  thn (ho pins s2 σ H2 x y v u _ I2 r1 r2 q2) fun d s3 ⟨z, H3, I3, r3, k, e, q3⟩ => ?_)) hm
 subst e
 cases r3
 refine wpAny_truthy_bool ?_
 cases k with
 | false => exact ite_ff ⟨.bl false, H3, I3, rfl, q3⟩
 | true => exact ite_tt (chain_last (thn (hc pins s3 σ H3 _ I3 q3) fun w' s4 ⟨z', H4, I4, r4, q4⟩ => ho' pins s4 σ H4 y z' u w' Q I4 r2 r4 q4))
def KN (K : PySem.W.Frag) (x : V) (H : Hp) (k : Bool) : Prop :=
 match x with
 | .non => k = false
 | .bl b => k = b
 | .int i => k = (i != 0)
 | .str y => y.length <= sizeLine /\ k = ((y.length : Int) != 0)
 | .byt y => y.size <= sizeLine /\ k = ((y.size : Int) != 0)
 | .ref p => (∃ xs, SqL K H p xs /\ k = !xs.isEmpty) \/ (∃ xs, SqT K H p xs /\ k = !xs.isEmpty) \/ ∃ kvs, H p = some (.dK kvs) /\ k = !kvs.isEmpty
 | _ => False
theorem yE {κ : Type} {kvs : List (κ × V)} {vs : List (κ × Value)} (r : KV kvs vs) : (!vs.isEmpty) = !kvs.isEmpty := by
 cases r <;> rfl
theorem pP {xs : List V} {its : List Value} (r : Vals xs its) : (!its.toArray.isEmpty) = !xs.isEmpty := by
 cases r <;> simp
theorem nA : (sizeLine : Nat) < 2 ^ 63 := by rw [sizeLine_eq]; decide
theorem SY : ZY X (fun x H Q => ∃ k, KN X.K x H k /\ Q k H) := by
 intro pins s σ H x v Q I rx h
 obtain ⟨k, e, q⟩ := h
 have hl := nA
 have hs : sizeLine = 16777216 := sizeLine_eq
 cases x with
 | non =>
  cases rx
  have e' : k = false := e
  subst e'
  exact truthy_none ⟨H, I, q⟩
 | bl b =>
  cases rx
  have e' : k = b := e
  subst e'
  exact wpAny_truthy_bool ⟨H, I, q⟩
 | int i =>
  obtain ⟨t, rfl⟩ := rx
  have e' : k = (i != 0) := e
  subst e'
  exact PySem.P.truthy_int ⟨H, I, q⟩
 | str y =>
  obtain ⟨t, rfl⟩ := rx
  obtain ⟨hy, e'⟩ : y.length <= sizeLine /\ k = ((y.length : Int) != 0) := e
  subst e'
  exact PySem.P.truthy_str (by omega) ⟨H, I.tok _, q⟩
 | byt y =>
  obtain ⟨t, rfl⟩ := rx
  obtain ⟨hy, e'⟩ : y.size <= sizeLine /\ k = ((y.size : Int) != 0) := e
  subst e'
  exact PySem.W.truthy_bytes (by omega) ⟨H, I.tok _, q⟩
 | ref p =>
  cases rx
  have e' : (∃ xs, SqL X.K H p xs /\ k = !xs.isEmpty) \/ (∃ xs, SqT X.K H p xs /\ k = !xs.isEmpty) \/ ∃ kvs, H p = some (.dK kvs) /\ k = !kvs.isEmpty := e
  rcases e' with ⟨xs, hx, e'⟩ | ⟨xs, hx, e'⟩ | ⟨kvs, hx, e'⟩
  · subst e'
    obtain ⟨its, r, pl, hz⟩ := I.list hx
    have hlen := r.length
    exact wpAny_truthy_list pl.isList (by simp only [List.size_toArray]; omega) ⟨H, I.tok _, by rw [pP r]; exact q⟩
  · subst e'
    obtain ⟨its, r, pl, hz⟩ := I.tuple hx
    have hlen := r.length
    exact truthy_tuple pl (by simp only [List.size_toArray]; omega) ⟨H, I.tok _, by rw [pP r]; exact q⟩
  · subst e'
    obtain ⟨hz, hS, vs, r, m⟩ : kvs.length <= sizeLine /\ (p == sysModules) = false /\ ∃ vs, KV kvs vs /\ s.heap.DictOf (bV X.prog X.w) p vs := I.hok p _ hx
    have hlen : kvs.length = vs.length := Paired.length r
    exact wpAny_truthy_dict hS m (by omega) ⟨H, I.tok _, by rw [yE r]; exact q⟩
 | _ => exact (show False from e).elim
theorem IW (ha : PE X a ta) (he : ∀ whole, isTrue a X.env whole = (do let v <- whole; standAt a.pos; holding [v] (truthy v))) :
 PT X a (fun σ H Q => ta σ H fun x H' => ∃ k, KN X.K x H' k /\ Q k H') := by
 intro pins s σ H Q I h
 exact isTrue_plain (thn (ha pins s σ H _ I h) fun v s1 ⟨x, H1, I1, r1, q1⟩ => SY pins s1 σ H1 x v Q I1 r1 q1) (he _)
theorem vals1 {x : V} {us : List Value} (r : Vals [x] us) : ∃ u, us = [u] /\ RelV x u := by
 cases r with
 | cons r1 r2 => cases r2; exact ⟨_, rfl, r1⟩
theorem vals2 {x y : V} {us : List Value} (r : Vals [x, y] us) : ∃ u w', us = [u, w'] /\ RelV x u /\ RelV y w' := by
 cases r with
 | cons r1 r2 =>
  cases r2 with
  | cons r3 r4 => cases r4; exact ⟨_, _, rfl, r1, r3⟩
end
end L2
namespace L2
open PySem PySem.Spec PyProof.Rows
structure ObjM (h : Heap) (x dx C : Addr) (mA : Str -> Option Value) : Prop where
 obj : h.get? x = some (PySem.W.instObj C dx)
 ns : h.Ns1 dx mA
 ne : dx ≠ x
theorem DR {h : Heap} {dx : Addr} {mA : Str -> Option Value} (n : h.Ns1 dx mA) : ∃ od, h.get? dx = some od /\ ∀ name, PySem.W.lookIn name od = some (mA name) := by
 obtain ⟨o, es, ep, ho, hd, hk, _, hm⟩ := n
 refine ⟨o, ho, fun name => ?_⟩
 have e := hm name
 unfold nsFind findBy at e
 rw [<- Array.find?_toList] at e
 unfold PySem.W.lookIn
 rw [hd]
 dsimp only
 split
 · rename_i y q
   rw [q] at e
   exact congrArg some e
 · rename_i q
   rw [q] at e
   have a : es.toList.any (·.refKey) = false := by
    rw [List.any_eq_false]
    intro y hy
    obtain ⟨z, t, hkey⟩ := hk y (Array.mem_toList_iff.mp hy)
    simp [DictEntry.refKey, hkey]
   have a' : ¬ es.toList.any (·.refKey) = true := by rw [a]; exact Bool.false_ne_true
   rw [if_neg a']
   exact congrArg some e
theorem ObjM.look {h : Heap} {x dx C : Addr} {mA : Str -> Option Value} (I : ObjM h x dx C mA) : ∃ od, PySem.W.InstAt h x (PySem.W.instObj C dx) C (some od) /\ ∀ name, PySem.W.lookIn name od = some (mA name) :=
 let ⟨od, ho, hl⟩ := DR I.ns
 ⟨od, ⟨I.obj, rfl, rfl, ho⟩, hl⟩
section
variable {prog : Program} {w : World} {A : Around} {E : Value -> Shared -> Prop} {s : Shared} {K : PySem.W.Frag} {x dx C f : Addr} {mA : Str -> Option Value} {name : Str} {v : Value}
theorem get_map {expr : Bool} {Q : Value -> Shared -> Prop} (X : K.In s.heap) (I : ObjM s.heap x dx C mA) (hg : PySem.W.plainGet K C name = true) (hh : PySem.W.hasDictIn K C = true)
 (ha : PySem.W.findIn K (.ref C) name = some none) (hv : mA name = some v) (hv' : PySem.W.handedIn v = true) (h : Q v { s with toks := s.toks + 1 }) :
 wpAny (model prog w) A (getAttr (.ref x) name expr) Q E s := by
 obtain ⟨od, J, hl⟩ := I.look
 exact PySem.W.get_value X J (PySem.W.plainGet_of hg).1 (PySem.W.findObj_own hh ha rfl (by rw [hl, hv])) hv' h
theorem OP {ns : List Str} {Q : Unit -> Shared -> Prop} (X : K.In s.heap) (I : ObjM s.heap x dx C mA)
 (hs : PySem.W.findIn K (.ref C) "__setattr__" = some (some (.builtin "object.__setattr__"))) (hp : PySem.W.plainOver K C = true) (ht : PySem.W.takerIn K C name = some none) (hh : PySem.W.hasDictIn K C = true)
 (hw : PySem.Within mA ns) (hsz : ns.length <= sizeLine)
 (h : ∀ h', ObjM h' x dx C (fun y => if y = name then some v else mA y) -> Heap.SameBut dx s.heap h' -> Q () { s with heap := h', toks := s.toks + 2 }) :
 wpAny (model prog w) A (setAttr (.ref x) name v) Q E s := by
 obtain ⟨od, J, hl⟩ := I.look
 refine PySem.W.set_plain X J hs (PySem.W.osa_open (s := { s with toks := s.toks + 1 }) (r := none) X J hp ht fun b => ?_)
 obtain ⟨cd, hc, hd'⟩ := PySem.W.any_some hh
 have hx : s.heap.get? x = some ⟨.ref C, some dx, .plain, #[]⟩ := I.obj
 refine wpAny_bind (wpAny_pure (wpAny_bind (wpAny_bind (wpAny_loadPart hx (wpAny_bind (PySem.W.Looks.here (s := { s with toks := s.toks + 1 }) (PySem.W.looks_clsIn X hc) ?_))))))
 rw [hd']
 refine wpAny_pure (a := some dx) (wpAny_bind (wpAny_pure (wpAny_bind ?_)))
 refine wpAny_nsSet1 (s := { s with toks := s.toks + 1 }) I.ns fun h' hn2 hs2 => ?_
 obtain ⟨oD, esD, epD, hoD, hdD, hcD⟩ := hn2.count (PySem.Within.cons name v hw)
 refine wpAny_bind (wpAny_lookBehind hoD (by rw [hdD]; exact pastItsLine_dict (Nat.le_trans hcD (by rw [List.length_cons]; omega))) ?_)
 exact wpAny_pure (h _ ⟨(hs2.2 _ (Ne.symm I.ne)).trans I.obj, hn2, I.ne⟩ hs2)
theorem GU {R : Result -> Shared -> Prop} {vs : List Value} {kw : List (Str × Value)} (X : K.In s.heap) (hm : PySem.W.makesIn K C = true)
 (hi : PySem.W.findIn K (.ref C) "__init__" = some (some (.ref f))) (hf : PySem.W.typeIn K (.ref f) = some (.type "function"))
 (h : codeAny (model prog w) (A.under (.builtin "type.__call__" ⟨.ref C :: vs, kw⟩)) (.call (.ref f) ⟨.ref (s.heap.objs.size + 1) :: vs, kw⟩) (PySem.W.InitBack (s.heap.objs.size + 1) R)
  { s with heap := (s.heap.push PySem.W.emptyDict).push (PySem.W.instObj C s.heap.objs.size) }) :
 codeAny (model prog w) A (.call (.ref C) ⟨vs, kw⟩) R s := by
 obtain ⟨hh, g, d, t, os⟩ := s
 exact PySem.W.make_core (PySem.W.makes_of X hm) (PySem.W.looks_findIn X hi) (fun self => PySem.W.bind_fn X self hf) (.inl rfl) h
end
def hX (f : Str) (v : V) : List (Str × V) -> List (Str × V)
 | [] => [(f, v)]
 | (g, x) :: r => if g = f then (g, v) :: r else (g, x) :: hX f v r
theorem nT (f g : Str) (v : V) : ∀ fs : List (Str × V), (hX f v fs).lookup g = if g = f then some v else fs.lookup g
 | [] => by
  show List.lookup g [(f, v)] = _
  by_cases h : g = f
  · have hb : (g == f) = true := beq_iff_eq.mpr h
    simp only [List.lookup, hb, if_pos h]
  · have hb : (g == f) = false := beq_eq_false_iff_ne.mpr h
    simp only [List.lookup, hb, if_neg h]
 | (k, x) :: r => by
  have ih := nT f g v r
  rw [show hX f v ((k, x) :: r) = (if k = f then (k, v) :: r else (k, x) :: hX f v r) from rfl]
  by_cases hk : k = f
  · rw [if_pos hk]
    by_cases h : g = k
    · have hb : (g == k) = true := beq_iff_eq.mpr h
      simp only [List.lookup, hb, if_pos (h.trans hk)]
    · have hb : (g == k) = false := beq_eq_false_iff_ne.mpr h
      simp only [List.lookup, hb, if_neg (fun e : g = f => h (e.trans hk.symm))]
  · rw [if_neg hk]
    by_cases h : g = k
    · have hb : (g == k) = true := beq_iff_eq.mpr h
      simp only [List.lookup, hb, if_neg (fun e : g = f => hk (h.symm.trans e))]
    · have hb : (g == k) = false := beq_eq_false_iff_ne.mpr h
      simp only [List.lookup, hb]
      exact ih
theorem mL (f : Str) (v : V) : ∀ fs : List (Str × V), f ∈ (hX f v fs).map (·.1) /\ ∀ g, g ∈ fs.map (·.1) -> g ∈ (hX f v fs).map (·.1)
 | [] => ⟨by simp [hX], fun g h => by simp at h⟩
 | (k, x) :: r => by
  obtain ⟨i1, i2⟩ := mL f v r
  rw [show hX f v ((k, x) :: r) = (if k = f then (k, v) :: r else (k, x) :: hX f v r) from rfl]
  by_cases hk : k = f
  · rw [if_pos hk]
    subst hk
    exact ⟨by simp, fun g h => by simpa using h⟩
  · rw [if_neg hk]
    refine ⟨?_, fun g h => ?_⟩
    · rw [List.map_cons]
      exact List.mem_cons_of_mem _ i1
    · rw [List.map_cons] at h ⊢
      rcases List.mem_cons.mp h with e | e
      · exact List.mem_cons.mpr (.inl e)
      · exact List.mem_cons_of_mem _ (i2 g e)
theorem nW (f : Str) (v : V) : ∀ fs : List (Str × V), (hX f v fs).length <= fs.length + 1
 | [] => by simp [hX]
 | (k, x) :: r => by
  have ih := nW f v r
  rw [show hX f v ((k, x) :: r) = (if k = f then (k, v) :: r else (k, x) :: hX f v r) from rfl]
  by_cases hk : k = f
  · rw [if_pos hk, List.length_cons, List.length_cons]; omega
  · rw [if_neg hk, List.length_cons, List.length_cons]; omega
theorem RelO.some_of {v : V} {o : Option Value} (r : RelO (some v) o) : ∃ u, o = some u /\ RelV v u := by
 cases o with
 | none => exact (show False from r).elim
 | some u => exact ⟨u, rfl, r⟩
theorem DN {v : V} {u : Value} (r : RelV v u) : PySem.W.handedIn u = true := by
 cases v with
 | non => cases (show u = Value.none from r); rfl
 | bl b => cases (show u = Value.bool b from r); rfl
 | int i => obtain ⟨t, e⟩ := (show ∃ t, u = Value.int i t from r); cases e; rfl
 | str x => obtain ⟨t, e⟩ := (show ∃ t, u = Value.str x t from r); cases e; rfl
 | byt b => obtain ⟨t, e⟩ := (show ∃ t, u = Value.bytes b t from r); cases e; rfl
 | flt b => obtain ⟨t, e⟩ := (show ∃ t, u = Value.float b t from r); cases e; rfl
 | ref a => cases (show u = Value.ref a from r); rfl
 | ty n => cases (show u = Value.type n from r); rfl
section
variable {P : Program} {w : World} {H H' : Hp} {h h' : Heap} {a C dx : Addr} {fs fs' : List (Str × V)}
theorem AS (hok : HOk P w H h) (e : H a = some (.ins C dx fs)) : ∃ mA, ObjM h a dx C mA /\ (∀ f, RelO (fs.lookup f) (mA f)) /\ PySem.Within mA (fs.map (·.1)) /\ fs.length <= 1000 /\ H dx = some (.own a) := by
 obtain ⟨d, z, ne, ob, mA, n, r, q⟩ := (show ObjOk P w H h a (.ins C dx fs) from hok a _ e)
 exact ⟨mA, ⟨ob, n, ne⟩, r, q, z, d⟩
end
structure Cls (K : PySem.W.Frag) (C : Addr) : Prop where
 pg : PySem.W.plainGet K C Str.empty = true
 hd : PySem.W.hasDictIn K C = true
 po : PySem.W.plainOver K C = true
 sa : PySem.W.findIn K (.ref C) "__setattr__" = some (some (.builtin "object.__setattr__"))
theorem Cls.get {K : PySem.W.Frag} {C : Addr} (c : Cls K C) (f : Str) : PySem.W.plainGet K C f = true := c.pg
def NoAttr (K : PySem.W.Frag) (C : Addr) (f : Str) : Prop := PySem.W.findIn K (.ref C) f = some none
theorem NoAttr.taker {K : PySem.W.Frag} {C : Addr} {f : Str} (n : NoAttr K C f) : PySem.W.takerIn K C f = some none := by
 unfold PySem.W.takerIn
 rw [show PySem.W.findIn K (.ref C) f = some none from n]
 rfl
section
variable {X : Cx} {pins : List (Addr × Obj)} {σ : St} {H : Hp} {s : Shared} {a C dx : Addr} {fs : List (Str × V)} {f : Str} {v : V} {A : Around} {E : Value -> Shared -> Prop}
theorem yT {b : Bool} {Q : Value -> Shared -> Prop} (I : Inv X pins σ H s) (e : H a = some (.ins C dx fs)) (c : Cls X.K C) (n : NoAttr X.K C f) (l : fs.lookup f = some v)
 (h : ∀ u s', Inv X pins σ H s' -> RelV v u -> Q u s') : wpAny (model X.prog X.w) A (getAttr (.ref a) f b) Q E s := by
 obtain ⟨mA, O, r, _, _, _⟩ := AS I.hok e
 obtain ⟨u, hu, ru⟩ := RelO.some_of (v := v) (o := mA f) (by rw [<- l]; exact r f)
 exact get_map I.kIn O (c.get f) c.hd n hu (DN ru) (h u _ (I.tok _) ru)
theorem yV {y : V} {u : Value} {Q : Unit -> Shared -> Prop} (I : Inv X pins σ H s) (e : H a = some (.ins C dx fs)) (c : Cls X.K C) (n : NoAttr X.K C f) (hl : fs.length < 1000) (ry : RelV y u)
 (h : ∀ s', Inv X pins σ (upd H a (.ins C dx (hX f y fs))) s' -> Q () s') : wpAny (model X.prog X.w) A (setAttr (.ref a) f u) Q E s := by
 obtain ⟨mA, O, r, wi, _, ho⟩ := AS I.hok e
 have hz : (fs.map (·.1)).length <= sizeLine := by rw [List.length_map, sizeLine_eq]; omega
 refine OP I.kIn O c.sa c.po n.taker c.hd wi hz fun h' O' sb => h _ ?_
 have hd : ∃ o, h'.get? dx = some o := let ⟨o, _, _, e', _⟩ := O'.ns; ⟨o, e'⟩
 refine I.write (x := a) (e := dx) (by rw [e]; exact True.intro) (.inr ho) (fun b q hb z => (sb.2 b hb).trans z) hd ?_
 refine ⟨by rw [aL O.ne]; exact ho, ?_, O.ne, O'.obj, _, O'.ns, fun g => ?_, fun g hg => ?_⟩
 · have := nW f y fs; omega
 · show RelO ((hX f y fs).lookup g) (if g = f then some u else mA g)
   rw [nT]
   by_cases q : g = f
   · rw [if_pos q, if_pos q]; exact ry
   · rw [if_neg q, if_neg q]; exact r g
 · by_cases q : g = f
   · rw [q]; exact (mL f y fs).1
   · refine (mL f y fs).2 g (wi g fun z => hg ?_)
     show (if g = f then some u else mA g) = none
     rw [if_neg q]; exact z
theorem Inv.made (I : Inv X pins σ H s) : Inv X pins σ (upd (upd H s.heap.objs.size (.own (s.heap.objs.size + 1))) (s.heap.objs.size + 1) (.ins C s.heap.objs.size []))
 { s with heap := (s.heap.push PySem.W.emptyDict).push (PySem.W.instObj C s.heap.objs.size) } := by
 have e1 : (s.heap.push PySem.W.emptyDict).get? s.heap.objs.size = some PySem.W.emptyDict := Heap.get?_push_size s.heap rfl
 have e2 : ((s.heap.push PySem.W.emptyDict).push (PySem.W.instObj C s.heap.objs.size)).get? (s.heap.objs.size + 1) = some (PySem.W.instObj C s.heap.objs.size) := by
  have := Heap.get?_push_size (s.heap.push PySem.W.emptyDict) (o := PySem.W.instObj C s.heap.objs.size) rfl
  rwa [Heap.size_push] at this
 have e3 : (s.heap.push PySem.W.emptyDict).Ns s.heap.objs.size (fun _ => none) := ⟨PySem.W.emptyDict, #[], _, e1, rfl, (fun e he => absurd he (by simp)), fun _ => rfl⟩
 have I1 := I.laid (a := s.heap.objs.size) (o := .own (s.heap.objs.size + 1)) (h' := s.heap.push PySem.W.emptyDict) (t' := s.toks) (fun b u q => Heap.get?_push_of_some _ q) (Nat.le_refl _) ⟨_, e1⟩
 refine I1.laid (a := s.heap.objs.size + 1) (o := .ins C s.heap.objs.size []) (t' := s.toks) (fun b u q => Heap.get?_push_of_some _ q) (Nat.le_of_eq (Heap.size_push _ _)) ?_
 have ne : s.heap.objs.size ≠ s.heap.objs.size + 1 := Nat.ne_of_lt (Nat.lt_succ_self _)
 refine ⟨by rw [aL ne, aR], Nat.zero_le _, ne, e2, fun _ => none, (Heap.Ns1.of_empty e3).at fun o q => Heap.get?_push_of_some _ q, fun _ => True.intro, fun y hy => absurd rfl hy⟩
theorem MB {prog : Program} {w : World} {env : Env} {e : Expr} {f : Str} {pos : Pos} {s : Shared} {Q : Value -> Shared -> Prop} (hb : attributeBase e f env (eval e env) = eval e env)
 (h : wpAny (model prog w) A (eval e env) (fun o s₁ => wpAny (model prog w) A (getAttr o f true) Q E s₁) E s) : wpAny (model prog w) A (eval (.Attribute e f pos) env) Q E s :=
 Attribute_any_ h (by rw [arm_eval_Attribute, hb])
end
def XU (K : PySem.W.Frag) (ta : TE) (f : Str) : TE := fun σ H Q => ta σ H fun x H1 => ∃ a C dx fs v, x = .ref a /\ H1 a = some (.ins C dx fs) /\ Cls K C /\ NoAttr K C f /\ fs.lookup f = some v /\ Q v H1
def YX (K : PySem.W.Frag) (ta tv : TE) (f : Str) : TS := fun D σ H => tv σ H fun y H1 => ta σ H1 fun x H2 => ∃ a C dx fs, x = .ref a /\ H2 a = some (.ins C dx fs) /\ Cls K C /\ NoAttr K C f /\ fs.length < 1000 /\
 D.nx σ (upd H2 a (.ins C dx (hX f y fs)))
section
variable {X : Cx} {o e value : Expr} {f : Str} {pos pos' tpos : Pos} {ta tv : TE}
theorem WK (he : PE X e ta) (hb : attributeBase e f X.env (eval e X.env) = eval e X.env) : PE X (.Attribute e f pos) (XU X.K ta f) := by
 intro pins s σ H Q I h
 refine MB hb (thn (he pins s σ H _ I h) fun u s1 ⟨x, H1, I1, rx, a, C, dx, fs, v, ex, ea, c, n, l, q⟩ => ?_)
 subst ex
 obtain rfl : u = Value.ref a := rx
 exact yT I1 ea c n l fun u' s2 I2 ru => ⟨v, H1, I2, ru, q⟩
theorem VZ (ha : PE X o ta) (hv : PE X value tv) (hs : swapsWith value (some (.Attribute o f pos')) pos.line X.env = pure false) : PS X (.Assign [.Attribute o f pos'] value pos) (YX X.K ta tv f) := by
 intro pins s σ H D I h
 refine plainObj_wpAny_Assign_Attribute (thn (hv pins s σ H _ I h) fun u s1 ⟨y, H1, I1, ry, q⟩ => thn (ha pins s1 σ H1 _ I1 q) fun ov s2 ⟨x, H2, I2, rx, a, C, dx, fs, ex, ea, c, n, l, q2⟩ => ?_) hs
 subst ex
 obtain rfl : ov = Value.ref a := rx
 exact yV I2 ea c n l ry fun s3 I3 => ⟨σ, _, I3, q2⟩
end
end L2
namespace L2
open PySem PySem.Spec PyProof.Rows
structure Room (k : Nat) (A : Around) (q : Bool := true) : Prop where
 hd : q = true -> A.handled = none
 dp : A.depth + 3 * k + 5 < recursionLimit
 un : A.units + 16 * k + 200 < cLine
 gd : A.guards = some []
theorem Room.mono {j k : Nat} {A : Around} {q : Bool} (r : Room k A q) (h : j <= k) : Room j A q := ⟨r.hd, by have := r.dp; omega, by have := r.un; omega, r.gd⟩
theorem Room.deeper {k : Nat} {A : Around} {q : Bool} (r : Room (k + 1) A q) (env : Env) : Room k (A.deeper env) q :=
 ⟨r.hd, by have := r.dp; show A.depth + 1 + 3 * k + 5 < _; omega, by have := r.un; show A.units + 3 + 16 * k + 200 < _; omega, r.gd⟩
theorem xX {A : Around} {C : Addr} {us : List Value} {kw : List (Str × Value)} : (A.under (.builtin "type.__call__" ⟨.ref C :: us, kw⟩)).depth = A.depth + 1 := by
 first | rfl | simp [Around.under, Code.weight, Code.isCreation, Code.isGuard, Code.isCaller, Code.frames, Code.isFrame, guardIds]
theorem yO {A : Around} {C : Addr} {us : List Value} {kw : List (Str × Value)} : (A.under (.builtin "type.__call__" ⟨.ref C :: us, kw⟩)).units = A.units + 1 := by
 first | rfl | simp [Around.under, Code.cUnits, Code.frames, Code.isFrame]
theorem vV {A : Around} {C : Addr} {us : List Value} {kw : List (Str × Value)} : (A.under (.builtin "type.__call__" ⟨.ref C :: us, kw⟩)).guards = A.guards := by
 first | rfl | simp [Around.under, Code.guards, pushGuards, Code.isGuard, guardIds] | (unfold Around.under; cases A.guards <;> rfl)
theorem Room.make {k : Nat} {A : Around} {q : Bool} (r : Room (k + 1) A q) (C : Addr) (us : List Value) (kw : List (Str × Value)) : Room k (A.under (.builtin "type.__call__" ⟨.ref C :: us, kw⟩)) q :=
 ⟨r.hd, by have := r.dp; rw [xX]; omega, by have := r.un; rw [yO]; omega, by rw [vV]; exact r.gd⟩
theorem Room.depth {k : Nat} {A : Around} {q : Bool} (r : Room k A q) : A.depth < recursionLimit := by have := r.dp; omega
theorem Room.units {k : Nat} {A : Around} {q : Bool} (r : Room k A q) : A.units + 64 < cLine := by have := r.un; omega
def GS : TA := fun _ H Q => Q [] H
def nP (ta : TE) (tr : TA) : TA := fun σ H Q => ta σ H fun x H1 => tr σ H1 fun xs H2 => Q (x :: xs) H2
section
variable {X : Cx} {e : Expr} {es : List Expr} {te : TE} {t : TA} {pos : Pos}
theorem uX : PA X [] GS := fun _ _ _ _ H Q I h => Calls.spliced_nil ⟨[], H, I, .nil, h⟩
theorem iK (ha : PE X e te) (hr : PA X es t) (hs : starEach (e :: es) X.env = (false, eval e X.env) :: starEach es X.env := by rfl) : PA X (e :: es) (nP te t) := by
 intro pos pins s σ H Q I h
 rw [hs]
 show wpAny _ _ (spliced ((false, eval e X.env) :: backTo pos (starEach es X.env))) _ _ s
 refine Calls.spliced_cons (thn (ha pins s σ H _ I h) fun u s1 ⟨x, H1, I1, r1, q1⟩ => ?_)
 exact thn (hr pos pins s1 σ H1 _ I1 q1) fun us s2 ⟨xs, H2, I2, r2, q2⟩ => ⟨x :: xs, H2, I2, .cons r1 r2, q2⟩
def MU (t : TA) : TE := fun σ H Q => t σ H fun xs H1 => xs.length <= sizeLine /\ ∀ p, H1 p = none -> Q (.ref p) (upd H1 p (.tup xs))
def WG (t : TA) : TE := fun σ H Q => t σ H fun xs H1 => xs.length <= sizeLine /\ ∀ p, H1 p = none -> Q (.ref p) (upd H1 p (.lst xs))
theorem zJ {x1} (h : PA X es t) : PE X (.Tuple es x1 pos) (MU t) := by
 intro pins s σ H Q I hq
 refine wpAny_Tuple_spliced (thn (h pos pins s σ H _ I hq) fun us s1 ⟨xs, H1, I1, r, z, q⟩ => ⟨by rw [<- r.length]; exact z, ?_⟩)
 have hf : H1 s1.heap.objs.size = none := I1.hok.fresh (Nat.le_refl _)
 refine ⟨.ref s1.heap.objs.size, upd H1 s1.heap.objs.size (.tup xs), I1.laid (t' := s1.toks) (fun b u e => Heap.get?_push_of_some _ e) (Nat.le_refl _) ?_, rfl, q _ hf⟩
 exact ⟨z, us, r, ⟨_, Heap.get?_push_size _ rfl, rfl, _, rfl⟩⟩
theorem FI (h : PA X es t) : PE X (.List es pos) (WG t) := by
 intro pins s σ H Q I hq
 refine wpAny_List_spliced (thn (h pos pins s σ H _ I hq) fun us s1 ⟨xs, H1, I1, r, z, q⟩ => ⟨by rw [<- r.length]; exact z, ?_⟩)
 have hf : H1 s1.heap.objs.size = none := I1.hok.fresh (Nat.le_refl _)
 refine ⟨.ref s1.heap.objs.size, upd H1 s1.heap.objs.size (.lst xs), I1.laid (t' := s1.toks) (fun b u e => Heap.get?_push_of_some _ e) (Nat.le_refl _) ?_, rfl, q _ hf⟩
 exact ⟨z, us, 0, r, Heap.get?_push_size _ rfl⟩
end
abbrev Sp := List V -> Hp -> VK -> XK -> Prop
abbrev CXT := List Env -> Hp -> Shared -> XK -> Value -> Shared -> Prop
structure Env0 (P : Program) (w : World) (K : PySem.W.Frag) (mg : Str -> Option Value) (base : Heap) (A : Around) (outer : List Env) (s : Shared) (H : Hp) : Prop where
 frames : A.frames = some outer
 mod : Mod K mg base
 bs : ∀ b o, base.get? b = some o -> s.heap.get? b = some o /\ H b = none
 bsz : base.objs.size <= s.heap.objs.size
 funs : s.heap.FunFrames base outer
 frf : ∀ b ∈ frs outer, H b = none
 hok : HOk P w H s.heap
 bare : AllBare s.gens
def CE (outer : List Env) (P : Program) (w : World) (H : Hp) (s : Shared) (Q : VK) (u : Value) (s' : Shared) : Prop :=
 ∃ v H', s'.os = s.os /\ AllBare s'.gens /\ Un (frs outer) [] H H' s.heap s'.heap /\ HOk P w H' s'.heap /\ RelV v u /\ Q v H'
def CR (CX : CXT) (outer : List Env) (P : Program) (w : World) (H : Hp) (s : Shared) (Q : VK) (E : XK) (r : Result) (s' : Shared) : Prop :=
 match r with
 | .ok (.ret u) => CE outer P w H s Q u s'
 | .ok _ => False
 | .error e => CX outer H s E e s'
structure kJ (P : Program) (w : World) (K : PySem.W.Frag) (mg : Str -> Option Value) (base : Heap) (CX : CXT) (k : Nat) (f : Addr) (fd : FuncData) (ps : List Str) (sp : Sp) (q : Bool := true) : Prop where
 len : ∀ vs H Q E, sp vs H Q E -> vs.length = ps.length
 run : ∀ (A : Around) (outer : List Env) (s : Shared) (H : Hp) (args : Args) (us : List Value) (vs : List V) (Q : VK) (E : XK), Room k A q -> Env0 P w K mg base A outer s H -> BindsTo s fd args (ps.zip us) -> Vals vs us -> sp vs H Q E ->
  codeAny (model P w) A (.call (.ref f) args) (CR CX outer P w H s Q E) s
theorem Env0.make {P : Program} {w : World} {K : PySem.W.Frag} {mg : Str -> Option Value} {base : Heap} {A : Around} {outer : List Env} {s : Shared} {H : Hp} (e : Env0 P w K mg base A outer s H) (C : Addr) (us : List Value) (kw : List (Str × Value)) :
 Env0 P w K mg base (A.under (.builtin "type.__call__" ⟨.ref C :: us, kw⟩)) outer s H := ⟨by first | exact e.frames | (simpa [Around.under, Code.envs, Code.isFrame, pushEnvs] using e.frames), e.mod, e.bs, e.bsz, e.funs, e.frf, e.hok, e.bare⟩
section
variable {X : Cx} {pins : List (Addr × Obj)} {σ : St} {H : Hp} {s s' : Shared}
theorem Inv.env0 (I : Inv X pins σ H s) : Env0 X.prog X.w X.K X.mg X.base X.A X.stack s H :=
 ⟨I.ok.frames, I.ok.mod, I.bs, Nat.le_trans I.ok.bsz I.sz, I.stack, I.stkFree, I.hok, I.bare⟩
theorem Inv.after {Q : VK} {u : Value} (I : Inv X pins σ H s) (h : CE X.stack X.prog X.w H s Q u s') : EP X pins σ Q u s' := by
 obtain ⟨v, H', os, bare, un, hok, r, q⟩ := h
 obtain ⟨hh, g, d, t, os'⟩ := s'
 obtain rfl : os' = s.os := os
 exact ⟨v, H', I.call (h' := hh) (g' := g) (d' := d) (t' := t) (ch := []) un hok bare (fun b z => absurd z (by simp)), r, q⟩
end
def HW (sp : Sp) (dvs : List V) (E : XK) (t : TA) : TE := fun σ H Q => t σ H fun vs H1 => sp (vs ++ dvs) H1 Q E
def PV (C : Addr) (sp : Sp) (dvs : List V) (E : XK) (t : TA) : TE := fun σ H Q => t σ H fun vs H1 => ∀ x dx, H1 x = none -> H1 dx = none -> dx ≠ x ->
 sp (.ref x :: (vs ++ dvs)) (upd (upd H1 dx (.own x)) x (.ins C dx [])) (fun v H2 => v = .non /\ Q (.ref x) H2) E
def Binds (K : PySem.W.Frag) (fd : FuncData) (ps : List Str) (ds : List Value) : Prop :=
 ∀ (s : Shared) (us : List Value), K.In s.heap -> (us ++ ds).length = ps.length -> BindsTo s fd ⟨us, []⟩ (ps.zip (us ++ ds))
theorem Binds.all {K : PySem.W.Frag} {fd : FuncData} {ps : List Str} (h : ∀ us : List Value, us.length = ps.length -> bindArgs fd ⟨us, []⟩ = pure (ps.zip us)) : Binds K fd ps [] := fun s us _ hl => by
 rw [List.append_nil] at hl ⊢
 exact .of_eq (h us hl)
def tT (CX : CXT) (X : Cx) (E : XK) : Prop := ∀ (pins : List (Addr × Obj)) (σ : St) (H : Hp) (s : Shared) (e : Value) (s' : Shared), Inv X pins σ H s -> CX X.stack H s E e s' -> X.xe e s'
section
variable {X : Cx} {CX : CXT} {k : Nat} {f C : Addr} {fd : FuncData} {ps : List Str} {sp : Sp} {dvs : List V} {ds : List Value} {E : XK} {x m : Str} {p pos apos : Pos} {e o : Expr} {es : List Expr} {ta : TE} {t : TA}
theorem UX {pins : List (Addr × Obj)} {σ : St} {H : Hp} {s : Shared} {Q : VK} {us : List Value} {vs : List V} {q : Bool} (F : kJ X.prog X.w X.K X.mg X.base CX k f fd ps sp q) (hr : Room k X.A q) (hb : Binds X.K fd ps ds) (hd : Vals dvs ds) (hx : tT CX X E)
 (I : Inv X pins σ H s) (r : Vals vs us) (h : sp (vs ++ dvs) H Q E) : wpAny (model X.prog X.w) X.A (call (.ref f) us) (EP X pins σ Q) X.xe s := by
 have r2 : Vals (vs ++ dvs) (us ++ ds) := r.append hd
 have hl : (us ++ ds).length = ps.length := by rw [<- r2.length]; exact F.len _ _ _ _ h
 refine wpAny_call (codeAny_mono (F.run X.A X.stack s H ⟨us, []⟩ (us ++ ds) (vs ++ dvs) Q E hr I.env0 (hb s us I.kIn hl) r2 h) fun r s' hq => ?_)
 cases r with
 | error e => exact hx pins σ H s e s' I hq
 | ok fl =>
  cases fl with
  | ret u => exact I.after hq
  | next => exact False.elim hq
  | brk => exact False.elim hq
  | cont => exact False.elim hq
theorem OL {q : Bool} (F : kJ X.prog X.w X.K X.mg X.base CX k f fd ps sp q) (hr : Room k X.A q) (hg : Gl X x) (hm : X.mg x = some (.ref f)) (hk : PySem.W.keepIn X.K (.ref f) = true) (hb : Binds X.K fd ps ds) (hd : Vals dvs ds) (hx : tT CX X E)
 (ha : PA X (e :: es) t) (hdb : (x == ("__debug__" : Str)) = false := by decide) (he : starEach (e :: es) X.env = (false, eval e X.env) :: starEach es X.env := by rfl) (hpl : (backTo pos (starEach es X.env)).any (·.1) = false := by rfl) :
 PE X (.Call (.Name x p) (e :: es) [] pos) (HW sp dvs E t) := by
 intro pins s σ H Q I h
 refine wpAny_Call_Name_kw (uS I hg hm ?_ hdb)
 refine PySem.W.callWith_K (h₀ := X.base) I.ok.mod.kin hk (thn (ha pos pins s σ H _ I h) fun us s1 ⟨vs, H1, I1, r, q⟩ => ⟨I1.kIn, ?_⟩) he hpl
 exact UX F hr hb hd hx I1 r q
structure Mk (K : PySem.W.Frag) (C f : Addr) : Prop where
 makes : PySem.W.makesIn K C = true
 init : PySem.W.findIn K (.ref C) "__init__" = some (some (.ref f))
 fn : PySem.W.isFn K (.ref f) = true
 kp : PySem.W.keepIn K (.ref C) = true
theorem FQ {pins : List (Addr × Obj)} {σ : St} {H : Hp} {s : Shared} {Q : VK} {us : List Value} {vs : List V} (M : Mk X.K C f) (F : kJ X.prog X.w X.K X.mg X.base CX k f fd ps sp) (hr : Room (k + 1) X.A) (hb : Binds X.K fd ps ds) (hd : Vals dvs ds)
 (hx : ∀ H s e s', Inv X pins σ H s -> CX X.stack H s E e s' -> X.xe e s') (I : Inv X pins σ H s) (r : Vals vs us)
 (h : ∀ x dx, H x = none -> H dx = none -> dx ≠ x -> sp (.ref x :: (vs ++ dvs)) (upd (upd H dx (.own x)) x (.ins C dx [])) (fun v H2 => v = .non /\ Q (.ref x) H2) E) :
 wpAny (model X.prog X.w) X.A (call (.ref C) us) (EP X pins σ Q) X.xe s := by
 have hq := h (s.heap.objs.size + 1) s.heap.objs.size (I.hok.fresh (Nat.le_succ _)) (I.hok.fresh (Nat.le_refl _)) (Nat.ne_of_lt (Nat.lt_succ_self _))
 have I2 := Inv.made (C := C) I
 have r2 : Vals (V.ref (s.heap.objs.size + 1) :: (vs ++ dvs)) (Value.ref (s.heap.objs.size + 1) :: (us ++ ds)) := .cons rfl (r.append hd)
 have hl : (Value.ref (s.heap.objs.size + 1) :: us ++ ds).length = ps.length := by
  have e := r2.length
  rw [F.len _ _ _ _ hq] at e
  exact e.symm
 refine wpAny_call (GU (f := f) I.kIn M.makes M.init (beq_iff_eq.mp M.fn) (codeAny_mono (F.run _ X.stack _ _ ⟨Value.ref (s.heap.objs.size + 1) :: us, []⟩ (Value.ref (s.heap.objs.size + 1) :: (us ++ ds)) _ _ E (hr.make C us [])
  (I2.env0.make C us []) (hb _ (Value.ref (s.heap.objs.size + 1) :: us) I2.kIn hl) r2 hq) fun r s' hq' => ?_))
 cases r with
 | error e => exact hx _ _ e s' I2 hq'
 | ok fl =>
  cases fl with
  | ret u =>
   obtain ⟨v, H', I3, rv, ev, q3⟩ := I2.after hq'
   subst ev
   exact ⟨rv, ⟨V.ref (s.heap.objs.size + 1), H', I3, rfl, q3⟩⟩
  | next => exact False.elim hq'
  | brk => exact False.elim hq'
  | cont => exact False.elim hq'
theorem NS (M : Mk X.K C f) (F : kJ X.prog X.w X.K X.mg X.base CX k f fd ps sp) (hr : Room (k + 1) X.A) (hg : Gl X x) (hm : X.mg x = some (.ref C)) (hb : Binds X.K fd ps ds) (hd : Vals dvs ds) (hx : tT CX X E)
 (ha : PA X (e :: es) t) (hdb : (x == ("__debug__" : Str)) = false := by decide) (he : starEach (e :: es) X.env = (false, eval e X.env) :: starEach es X.env := by rfl) (hpl : (backTo pos (starEach es X.env)).any (·.1) = false := by rfl) :
 PE X (.Call (.Name x p) (e :: es) [] pos) (PV C sp dvs E t) := by
 intro pins s σ H Q I h
 refine wpAny_Call_Name_kw (uS I hg hm ?_ hdb)
 refine PySem.W.callWith_K (h₀ := X.base) I.ok.mod.kin M.kp (thn (ha pos pins s σ H _ I h) fun us s1 ⟨vs, H1, I1, r, q⟩ => ⟨I1.kIn, ?_⟩) he hpl
 exact FQ M F hr hb hd (hx pins σ) I1 r q
end
structure aT (N P : List Str) (sc : Scope) : Prop where
 kind : sc.kind = .function
 co : sc.isCoroutine = false
 gen : sc.isGenerator = false
 nd : N.Nodup
 pre : N.take P.length = P
 par : ∀ x ∈ P, sc.names.lookup x = some .local \/ sc.names.lookup x = some .cell
 nofree : ∀ y ∈ sc.names, y.2 ≠ .free
theorem sZ {kindOf : Str -> Option NameKind} {x : Str} : ∀ {binds : List (Str × Value)} {m : Str -> Option Value}, (∀ v, (x, v) ∉ binds) -> bindL kindOf binds m x = m x
 | [], _, _ => rfl
 | (n, v) :: r, m, h => by
  unfold bindL
  rw [sZ fun w hw => h w (List.mem_cons_of_mem _ hw)]
  split
  · have : x ≠ n := by rintro rfl; exact h v List.mem_cons_self
    simp [this]
  · rfl
theorem rN {kindOf : Str -> Option NameKind} {x : Str} : ∀ {binds : List (Str × Value)} {m : Str -> Option Value}, (∀ v, (x, v) ∉ binds) -> bindC kindOf binds m x = m x
 | [], _, _ => rfl
 | (n, v) :: r, m, h => by
  unfold bindC
  rw [rN fun w hw => h w (List.mem_cons_of_mem _ hw)]
  split
  · rfl
  · have : x ≠ n := by rintro rfl; exact h v List.mem_cons_self
    simp [this]
theorem sC {kindOf : Str -> Option NameKind} {x : Str} {v : Value} : ∀ {P : List Str} {vs : List Value} {i : Nat} {m : Str -> Option Value}, P.Nodup -> P[i]? = some x -> vs[i]? = some v -> kindOf x = some .local ->
 bindL kindOf (P.zip vs) m x = some v
 | [], _, _, _, _, h, _, _ => by simp at h
 | _ :: _, [], _, _, _, _, h, _ => by simp at h
 | p :: P, w :: vs, 0, m, nd, h1, h2, hk => by
  simp at h1 h2; subst h1; subst h2
  show bindL kindOf ((p, w) :: P.zip vs) m p = _
  unfold bindL
  rw [sZ fun v hv => (List.nodup_cons.mp nd).1 (List.of_mem_zip hv).1, if_pos hk]
  simp
 | p :: P, w :: vs, i + 1, m, nd, h1, h2, hk => by
  show bindL kindOf ((p, w) :: P.zip vs) m x = _
  unfold bindL
  exact sC (i := i) (List.nodup_cons.mp nd).2 (by simpa using h1) (by simpa using h2) hk
theorem rJ {kindOf : Str -> Option NameKind} {x : Str} {v : Value} : ∀ {P : List Str} {vs : List Value} {i : Nat} {m : Str -> Option Value}, P.Nodup -> P[i]? = some x -> vs[i]? = some v -> kindOf x ≠ some .local ->
 bindC kindOf (P.zip vs) m x = some v
 | [], _, _, _, _, h, _, _ => by simp at h
 | _ :: _, [], _, _, _, _, h, _ => by simp at h
 | p :: P, w :: vs, 0, m, nd, h1, h2, hk => by
  simp at h1 h2; subst h1; subst h2
  show bindC kindOf ((p, w) :: P.zip vs) m p = _
  unfold bindC
  rw [rN fun v hv => (List.nodup_cons.mp nd).1 (List.of_mem_zip hv).1, if_neg hk]
  simp
 | p :: P, w :: vs, i + 1, m, nd, h1, h2, hk => by
  show bindC kindOf ((p, w) :: P.zip vs) m x = _
  unfold bindC
  exact rJ (i := i) (List.nodup_cons.mp nd).2 (by simpa using h1) (by simpa using h2) hk
def start (N : List Str) (vs : List V) : St := vs.map some ++ List.replicate (N.length - vs.length) none
def lW (CX : CXT) (P : Program) (w : World) (K : PySem.W.Frag) (mg : Str -> Option Value) (base : Heap) (N : List Str) (qual : Str) (scope : Scope) (f : Addr) (cd : Value) (A : Around) (outer : List Env) (s : Shared) (H : Hp) (E : XK) (q : Bool := true) : Cx where
 prog := P
 w := w
 K := K
 mg := mg
 base := base
 A := A.deeper (envOfC qual scope s.heap.objs.size f cd)
 N := N
 s₀ := s
 H₀ := H
 env := envOfC qual scope s.heap.objs.size f cd
 outer := outer
 stack := envOfC qual scope s.heap.objs.size f cd :: outer
 ex := []
 calm := q
 fn := fun _ => true
 pn := []
 xe := fun e s' => wpAny (model P w) (A.deeper (envOfC qual scope s.heap.objs.size f cd)) (leaving (envOfC qual scope s.heap.objs.size f cd) e) (fun _ s'' => CX outer H s E e s'') (fun e' s'' => CX outer H s E e' s'') s'
theorem uY {sc : Scope} {n : Nat} {x : Str} (h : sc.names.lookup x = some .cell) : ∃ c, (cellsFrom n sc.names []).lookup x = some c := by
 have q := PySem.W.cellsFrom_some sc.names n [] (.inl h)
 exact Option.isSome_iff_exists.mp q
theorem CF {CX : CXT} {P : Program} {w : World} {K : PySem.W.Frag} {mg : Str -> Option Value} {base : Heap} {N ps : List Str} {qual : Str} {scope : Scope} {f : Addr} {cd : Value} {A : Around} {outer : List Env} {s s1 : Shared} {H : Hp} {E : XK} {us : List Value} {vs : List V} {q : Bool}
 (S : aT N ps scope) (hd : q = true -> A.handled = none) (e0 : Env0 P w K mg base A outer s H) (hl : vs.length = ps.length) (r : Vals vs us)
 (x : InCallC s s.heap.objs.size (bindL (envOfC qual scope s.heap.objs.size f cd).kindOf (ps.zip us) fun _ => none) (cellsFrom (s.heap.objs.size + 1) scope.names []) (bindC (envOfC qual scope s.heap.objs.size f cd).kindOf (ps.zip us) fun _ => none) s1) :
 Inv (lW CX P w K mg base N qual scope f cd A outer s H E q) [] (start N vs) H s1 := by
 have hpl : ps.length <= N.length := by have := congrArg List.length S.pre; rw [List.length_take] at this; omega
 obtain ⟨h1, tk, rfl, hk⟩ := x.done
 have noA : ∀ b : Addr, b ∉ (lW CX P w K mg base N qual scope f cd A outer s H E q).ex := fun b z => absurd (show b ∈ ([] : List Addr) from z) (by simp)
 refine ⟨⟨e0.mod, S.kind, rfl, rfl, Nat.le_refl _, fun y z c h1 h2 => ?_, fun y hy => ?_, fun y c _ h => ?_, hd, Around.frames_deeper e0.frames, .inr ⟨rfl, rfl⟩, fun b z => absurd z (noA b), e0.bs, e0.bsz, fun b _ _ => noA b, fun b z => absurd z (noA b), e0.funs, e0.frf⟩,
  rfl, e0.bare, Un.kept hk, ⟨_, x.toInCall.ns, fun i y v h1 h2 h3 => ?_⟩, fun y c h => ⟨_, x.cell y c h⟩, e0.hok.fresh (Nat.le_refl _), fun y c h => ?_, fun p hp => absurd (show p ∈ ([] : List (Addr × Obj)) from hp) (by simp), e0.hok.kept hk, ?_⟩
 · exact name_of_addr x.apart (PySem.mem_of_lookup h1) (PySem.mem_of_lookup h2)
 · have hy : scope.names.lookup y = some .cell \/ scope.names.lookup y = some .free := hy
   rcases hy with hy | hy
   · exact uY hy
   · exact absurd rfl (S.nofree _ (PySem.mem_of_lookup hy))
 · exact Nat.le_of_lt (x.above y c (PySem.mem_of_lookup h))
 · have hi : i < vs.length := by
    unfold start at h2
    by_cases hi : i < vs.length
    · exact hi
    · rw [List.getElem?_append_right (by simpa using hi)] at h2
      rw [List.getElem?_replicate] at h2
      split at h2 <;> cases h2
   have ha : vs[i]? = some v := by
    unfold start at h2
    rw [List.getElem?_append_left (by simpa using hi), List.getElem?_map] at h2
    cases e : vs[i]? with
    | none => rw [e] at h2; cases h2
    | some a => rw [e] at h2; cases h2; rfl
   obtain ⟨u, hu, rv⟩ := r.get ha
   have hp : ps[i]? = some y := by
    rw [<- S.pre, List.getElem?_take_of_lt (by omega)]; exact h1
   have ndP : ps.Nodup := by rw [<- S.pre]; exact S.nd.sublist (List.take_sublist _ _)
   refine ⟨u, rv, ?_⟩
   rcases S.par y (List.mem_of_getElem? hp) with k | k
   · exact .inl ⟨k, sC ndP hp hu k⟩
   · obtain ⟨c, e⟩ := uY (n := s.heap.objs.size + 1) k
     refine .inr ⟨.inl k, c, e, ?_⟩
     have q := x.cell y c e
     rw [rJ ndP hp hu (by show scope.names.lookup y ≠ _; rw [k]; decide)] at q
     exact q
 · exact e0.hok.fresh (Nat.le_of_lt (x.above y c (PySem.mem_of_lookup h)))
 · unfold start
   show _ = N.length
   rw [List.length_append, List.length_map, List.length_replicate]
   omega
theorem ZU {CX : CXT} {P : Program} {w : World} {K : PySem.W.Frag} {mg : Str -> Option Value} {base : Heap} {k : Nat} {f : Addr} {name qual : Str} {params : Arguments} {body : List Stmt} {scope : Scope} {dV kV doc pm cdv ct oc : Value} {an od : Option Addr}
 {osl : Array (Option Value)} {N ps : List Str} {sp : Sp} {q : Bool} (lk : K.lookup f = some ⟨oc, od, .func (PySem.W.fnOf name qual params body scope dV kV doc pm an cdv ct), osl⟩) (hcd : PySem.W.codeIn K cdv qual = true) (S : aT N ps scope)
 (len : ∀ vs H Q E, sp vs H Q E -> vs.length = ps.length)
 (hbody : ∀ (A : Around) (outer : List Env) (s : Shared) (H : Hp) (vs : List V) (Q : VK) (E : XK), Room k (A.deeper (envOfC qual scope s.heap.objs.size f cdv)) q -> sp vs H Q E ->
  ∃ t, PSs (lW CX P w K mg base N qual scope f cdv A outer s H E q) body t /\ t { nx := fun _ H' => Q .non H', rt := Q } (start N vs) H) :
 kJ P w K mg base CX (k + 1) f (PySem.W.fnOf name qual params body scope dV kV doc pm an cdv ct) ps sp q := by
 refine ⟨len, fun A outer s H args us vs Q E hr e0 hb r hsp => ?_⟩
 have hl := len _ _ _ _ hsp
 have KX : K.In s.heap := e0.mod.kin.keeps fun b o e => (e0.bs b o e).1
 have lim : s.heap.NoLimit := e0.mod.nolimit.keeps fun b o e => (e0.bs b o e).1
 have hkind : ∀ y ∈ ps.zip us, scope.names.lookup y.1 = some .local \/ (scope.names.lookup y.1 = some .cell /\ ((cellsFrom (s.heap.objs.size + 1) scope.names []).lookup y.1).isSome = true) := fun ⟨n, v⟩ hy => by
  rcases S.par n (List.of_mem_zip hy).1 with q | q
  · exact .inl q
  · exact .inr ⟨q, PySem.W.cellsFrom_some _ _ _ (.inl q)⟩
 refine codeAny_call_function hr.depth (KX _ _ lk) rfl S.co S.gen rfl (PySem.W.codeRec_of KX hcd) (hb _ _ _ _ ?_)
 refine wpAny_newFunctionEnv_cells S.kind hkind fun env he s1 x => ?_
 subst he
 refine ⟨lim.keeps x.toInCall.keep, codeAny_func ?_⟩
 obtain ⟨t, ht, hq⟩ := hbody A outer s H vs Q E (hr.deeper _) hsp
 have I : Inv (lW CX P w K mg base N qual scope f cdv A outer s H E q) [] (start N vs) H s1 := CF S hr.hd e0 hl r x
 refine wpAny_mono (ht [] s1 (start N vs) H _ I hq) (fun fl s' hs => ?_) fun e s' hs => hs
 have fin : ∀ {σ' : St} {H' : Hp} {v : V} {u : Value}, Inv (lW CX P w K mg base N qual scope f cdv A outer s H E q) [] σ' H' s' -> RelV v u -> Q v H' -> CE outer P w H s Q u s' :=
  fun {σ' H' v u} J rv q => ⟨v, H', J.os, J.bare, J.base, J.hok, rv, q⟩
 cases fl with
 | ret u =>
  obtain ⟨v, σ', H', J, rv, q⟩ := hs
  exact fin J rv q
 | next =>
  obtain ⟨σ', H', J, q⟩ := hs
  exact fin (v := V.non) (u := Value.none) J rfl q
 | brk =>
  obtain ⟨_, _, _, q⟩ := hs
  exact False.elim q
 | cont =>
  obtain ⟨_, _, _, q⟩ := hs
  exact False.elim q
end L2
namespace L2
open PySem PySem.Spec PyProof.Rows
section
variable {X : Cx} {x : Str} {p pos : Pos} {e : Expr} {es : List Expr} {t : TA} {id T : String} {r : List V -> Hp -> VK -> Prop}
def tCB (r : List V -> Hp -> VK -> Prop) (t : TA) : TE := fun σ H Q => t σ H fun vs H1 => r vs H1 Q
theorem pJ (hc : fJ X (.builtin id) r) (hg : Gl X x) (hm : X.mg x = none) (hv : bootBuiltins x = some (.builtin id)) (ha : PA X (e :: es) t) (hn : x ≠ "__name__" := by decide) (hdb : (x == ("__debug__" : Str)) = false := by decide)
 (he : starEach (e :: es) X.env = (false, eval e X.env) :: starEach es X.env := by rfl) (hpl : (backTo pos (starEach es X.env)).any (·.1) = false := by rfl) : PE X (.Call (.Name x p) (e :: es) [] pos) (tCB r t) := by
 intro pins s σ H Q I h
 refine wpAny_Call_Name_kw (jO I hg hm hv ?_ hn hdb)
 exact PyProof.Rows.callWith_builtin1 (thn (ha pos pins s σ H _ I h) fun us s1 ⟨vs, H1, I1, r1, q1⟩ => hc pins s1 σ H1 vs us Q I1 r1 q1) he hpl
theorem CK (hc : fJ X (.type T) r) (hg : Gl X x) (hm : X.mg x = none) (hv : bootBuiltins x = some (.type T)) (ha : PA X (e :: es) t) (hn : x ≠ "__name__" := by decide) (hdb : (x == ("__debug__" : Str)) = false := by decide)
 (he : starEach (e :: es) X.env = (false, eval e X.env) :: starEach es X.env := by rfl) (hpl : (backTo pos (starEach es X.env)).any (·.1) = false := by rfl) : PE X (.Call (.Name x p) (e :: es) [] pos) (tCB r t) := by
 intro pins s σ H Q I h
 refine wpAny_Call_Name_kw (jO I hg hm hv ?_ hn hdb)
 exact PyProof.Rows.callWith_type1 (thn (ha pos pins s σ H _ I h) fun us s1 ⟨vs, H1, I1, r1, q1⟩ => hc pins s1 σ H1 vs us Q I1 r1 q1) he hpl
end
end L2
namespace HT
open PySem PyProof.Rows
def lexLt : List Int -> List Int -> Bool
 | [], [] => false
 | [], _ :: _ => true
 | _ :: _, [] => false
 | x :: xs, y :: ys => if x = y then lexLt xs ys else decide (x < y)
theorem yK (x y : Int) (xs ys : List Int) : lexLt (x :: xs) (y :: ys) = if x = y then lexLt xs ys else decide (x < y) := rfl
theorem qV : lexLt [] [] = false := rfl
theorem pQ (y : Int) (ys : List Int) : lexLt [] (y :: ys) = true := rfl
theorem pB (x : Int) (xs : List Int) : lexLt (x :: xs) [] = false := rfl
theorem GM (A : Around) (s : Shared) (a : Int) (t : Tok) (c : Int) (u : Tok) : ∃ e, SeqAt.EqAt A s (.int a t) (.int c u) e /\ (e = true ↔ a = c) :=
 ⟨(a == c), SeqAt.EqAt.int_int a t c u, by simp⟩
theorem HI (A : Around) (s : Shared) (a : Int) (t : Tok) (c : Int) (u : Tok) (prog : Program) (w : World) (E : Value -> Shared -> Prop) (Q : Value -> Shared -> Prop) (h : Q (.bool (decide (a < c))) s) :
 wpAny (model prog w) A (richCompare .Lt (.int a t) (.int c u)) Q E s :=
 (PyProof.Rows.lt_int h : wpAny (model prog w) A (compareOp .Lt (.int a t) (.int c u)) Q E s)
section
open PySem.SeqAt
open PySem.AutoSeq1 (wpAny_loadPart')
open PySem.MeetsSeq PySem.MeetsSeq2 PySem.MeetsSeq3
theorem rC (l b : Addr) (items items2 : Array Value) (n n2 : Nat) (dd dd2 : Option Addr) (sl sl2 : Array (Option Value)) (ns ms : List Int) (hi : IntsAre items.toList ns) (hj : IntsAre items2.toList ms) :
 Meets (Builtin.«tuple.__lt__» ⟨[.ref l, .ref b], []⟩)
  (fun _ R s => s.heap.get? l = some { cls := .type "tuple", dict := dd, data := .seq items n, slots := sl } /\ s.heap.get? b = some { cls := .type "tuple", dict := dd2, data := .seq items2 n2, slots := sl2 } /\
   R (.ok (.ret (.bool (lexLt ns ms)))) s) :=
 .of_wp fun prog w A R s h => by
  obtain ⟨hp, g, d, tk, os⟩ := s; obtain ⟨hl, hb, h⟩ := h
  have f2 := AutoSeq1.sub_tuple_tuple
  have z1 : items.size = ns.length := by rw [<- hi.length]; simp
  have z2 : items2.size = ms.length := by rw [<- hj.length]; simp
  wp_walk using wpAny_loadPart' hl, wpAny_loadPart' hb, wpAny_forIn_list _ (fun rest b s' => b.1 = none /\ s' = ⟨hp, g, d, tk, os⟩ /\ ∃ (vs ws : List Value) (ns' ms' : List Int), rest = vs.zip ws /\
   IntsAre vs ns' /\ IntsAre ws ms' /\ ns'.length + items2.size = ms'.length + items.size /\ R (.ok (.ret (.bool (lexLt ns' ms')))) ⟨hp, g, d, tk, os⟩) _
  case turn =>
   rintro ⟨y, x⟩ rest b s' ⟨hb', rfl, vs, ws, ns', ms', hz, hvi, hwi, hlen, hR⟩
   cases hvi with
   | nil => rw [List.zip_nil_left] at hz; cases hz
   | cons a t hvi' =>
    cases hwi with
    | nil => rw [List.zip_nil_right] at hz; cases hz
    | cons c u hwi' =>
     rw [List.zip_cons_cons] at hz
     injection hz with hyx hrest
     injection hyx with hy hx
     subst hy hx
     rw [yK] at hR
     simp only [List.length_cons] at hlen
     obtain ⟨e, he, hiff⟩ := GM A.in1 ⟨hp, g, d, tk, os⟩ a t c u
     refine wpAny_bind (he prog w _ _ ?_)
     cases e with
     | true =>
      rw [if_pos (hiff.mp rfl)] at hR
      wp_walk
      exact ⟨rfl, rfl, _, _, _, _, hrest, hvi', hwi', by omega, hR⟩
     | false =>
      rw [if_neg (fun q => absurd (hiff.mpr q) Bool.false_ne_true)] at hR
      have hri := HI A.in1 ⟨hp, g, d, tk, os⟩ a t c u prog w
      wp_walk using hri
      exact ⟨_, rfl, by simpa using hR⟩
  case fin =>
   rintro ⟨b1, b2⟩ s' ⟨hb', rfl, vs, ws, ns', ms', hz, hvi, hwi, hlen, hR⟩
   simp only at hb'
   subst hb'
   have hv : lexLt ns' ms' = decide (items.size < items2.size) := by
    cases hvi with
    | nil =>
     cases hwi with
     | nil =>
      simp only [List.length_nil] at hlen
      rw [qV]
      exact (decide_eq_false (by omega)).symm
     | cons c u hw =>
      simp only [List.length_nil, List.length_cons] at hlen
      rw [pQ]
      exact (decide_eq_true (by omega)).symm
    | cons a t hv =>
     cases hwi with
     | nil =>
      simp only [List.length_nil, List.length_cons] at hlen
      rw [pB]
      exact (decide_eq_false (by omega)).symm
     | cons c u hw =>
      rw [List.zip_cons_cons] at hz
      cases hz
   rw [hv] at hR
   wp_walk
   exact ⟨_, rfl, by simpa [Builtin.Tuple.tupleCompareSizes] using hR⟩
  case h =>
   exact ⟨rfl, rfl, items.toList, items2.toList, ns, ms, rfl, hi, hj, by omega, h⟩
end
section
variable {prog : Program} {w : World} {A : Around} {E : Value -> Shared -> Prop} {s : Shared}
theorem lt_tupInts {l b : Addr} {items items2 : Array Value} {ns ms : List Int} {Q : Value -> Shared -> Prop} (hl : IsTup s.heap l items) (hb : IsTup s.heap b items2) (hi : IntsAre items.toList ns) (hj : IntsAre items2.toList ms)
 (hu : A.units < cLine) (h : Q (.bool (lexLt ns ms)) s) : wpAny (model prog w) A (compareOp .Lt (.ref l) (.ref b)) Q E s := by
 obtain ⟨⟨cls, dd, data, sl⟩, ho, hc, n, hd⟩ := id hl
 obtain ⟨⟨cls2, dd2, data2, sl2⟩, ho2, hc2, n2, hd2⟩ := id hb
 simp only at hc hd hc2 hd2
 subst hc hd hc2 hd2
 exact richCompare_meets_room (op := .Lt) ⟨_, ho, rfl⟩ ⟨_, ho2, rfl⟩ PySem.F.slot_tuple_lt PySem.F.entry_tuple_lt (PySem.F.args_tuple_lt_2 _ _) (rC l b items items2 n n2 dd dd2 sl sl2 ns ms hi hj)
  ⟨ho, ho2, show Value.bool (lexLt ns ms) ≠ Value.notImplemented /\ Q (.bool (lexLt ns ms)) s from ⟨(fun x => nomatch x), h⟩⟩ hu
theorem cat_tup {t b : Addr} {vs ws : List Value} {Q : Value -> Shared -> Prop} (ht : IsTup s.heap t vs.toArray) (hb : IsTup s.heap b ws.toArray) (hv : vs ≠ [])
 (h1 : ws = [] -> Q (.ref t) s) (h2 : ws ≠ [] -> Q (.ref s.heap.objs.size) { s with heap := s.heap.push { cls := .type "tuple", data := .seq (vs ++ ws).toArray } })
 (hsz : vs.length + ws.length <= sizeLine) : wpAny (model prog w) A (binaryOp .Add (.ref t) (.ref b)) Q E s := by
 obtain ⟨⟨cls, dd, data, sl⟩, ho, hc, n, hd⟩ := id ht
 obtain ⟨⟨cls2, dd2, data2, sl2⟩, ho2, hc2, n2, hd2⟩ := id hb
 simp only at hc hd hc2 hd2
 subst hc hd hc2 hd2
 have e : vs.toArray ++ ws.toArray = (vs ++ ws).toArray := by simp
 by_cases hw : ws = []
 · exact concat_meets ⟨_, ho, rfl⟩ ⟨_, ho2, rfl⟩ noFill_tuple_add seq_tuple_add PySem.F.slot_tuple_add PySem.F.entry_tuple_add (PySem.F.args_tuple_add_2 _ _)
    (tuple_addW1 t b vs.toArray ws.toArray n n2 dd dd2 sl sl2 (by simpa using hv) (by simp [hw])) ⟨ho, ho2, h1 hw⟩
 · refine concat_meets ⟨_, ho, rfl⟩ ⟨_, ho2, rfl⟩ noFill_tuple_add seq_tuple_add PySem.F.slot_tuple_add PySem.F.entry_tuple_add (PySem.F.args_tuple_add_2 _ _)
    (tuple_addW2 t b vs.toArray ws.toArray n n2 dd dd2 sl sl2 (by simpa using hv) (by simpa using hw) (by rw [List.size_toArray, List.size_toArray]; exact hsz)) ⟨ho, ho2, ?_⟩
   rw [e]
   exact h2 hw
def sIx (n d : Nat) : Option Int -> Nat
 | none => d
 | some v => if v < 0 then (v + (n : Int)).toNat else min v.toNat n
theorem sIx_none (n d : Nat) : sIx n d none = d := rfl
theorem sIx_nat (n d k : Nat) : sIx n d (some (k : Int)) = min k n := by
 show (if (k : Int) < 0 then ((k : Int) + (n : Int)).toNat else min (k : Int).toNat n) = min k n
 rw [if_neg (by omega), Int.toNat_natCast]
theorem SZ (n d : Nat) (hd : d <= n) (o : Option Int) : sIx n d o <= n := by
 cases o with
 | none => exact hd
 | some v =>
  show (if v < 0 then (v + (n : Int)).toNat else min v.toNat n) <= n
  by_cases hv : v < 0
  · rw [if_pos hv]; omega
  · rw [if_neg hv]; exact Nat.min_le_right _ _
theorem BL (v : Int) (n d : Nat) : (if v < 0 then max (v + (n : Int)) 0 else min v (n : Int)) = ((sIx n d (some v) : Nat) : Int) := by
 show (if v < 0 then max (v + (n : Int)) 0 else min v (n : Int)) = (((if v < 0 then (v + (n : Int)).toNat else min v.toNat n) : Nat) : Int)
 by_cases hv : v < 0
 · simp only [if_pos hv]; omega
 · simp only [if_neg hv]; omega
theorem xT (lo hi : Option Int) (n : Nat) : Builtin.Slice.sliceAdjust lo hi 1 (n : Int) = (((sIx n 0 lo : Nat) : Int), ((sIx n n hi : Nat) : Int)) := by
 have h1 : ¬ ((1 : Int) < 0) := by omega
 unfold Builtin.Slice.sliceAdjust
 simp only [h1, if_false]
 refine Prod.ext ?_ ?_
 · cases lo with
   | none => rfl
   | some v => exact BL v n 0
 · cases hi with
   | none => rfl
   | some v => exact BL v n n
theorem zB (i j : Nat) : Builtin.Slice.slicePlaces (i : Int) (j : Int) 1 = j - i := by
 unfold Builtin.Slice.slicePlaces
 have h1 : (1 : Int) > 0 := by omega
 simp only [h1, if_true, Int.ediv_one]
 split <;> omega
theorem pT {v : Value} {o : Option Int} {Q : Option Int -> Shared -> Prop} (p : IsPart v o) (h : Q o s) : wpAny (model prog w) A (Builtin.Slice.slicePartIndex v) Q E s := by
 cases p with
 | none => exact slicePart_none h
 | int i t => exact slicePart_int h
theorem gW {sl : Addr} {vl vu : Value} {lo hi : Option Int} {n : Nat} {Q : Int × Int × Nat -> Shared -> Prop} (hs : s.heap.IsSliceOf sl vl vu .none) (pl : IsPart vl lo) (pu : IsPart vu hi)
 (h : Q (((sIx n 0 lo : Nat) : Int), 1, sIx n n hi - sIx n 0 lo) s) : wpAny (model prog w) A (Builtin.Slice.sliceApplied (.ref sl) (pure (n : Int))) Q E s := by
 obtain ⟨os, hos, hcs, hds⟩ := id hs
 unfold Builtin.Slice.sliceApplied Builtin.Slice.sliceFields
 refine wpAny_bind (wpAny_bind (wpAny_field hos hds (x := vl) rfl (wpAny_bind (wpAny_field hos hds (x := vu) rfl (wpAny_bind (wpAny_field hos hds (x := .none) rfl (wpAny_pure ?_)))))))
 refine wpAny_bind (slicePart_none ?_)
 show wpAny _ _ (if ((1 : Int) == 0) = true then _ else _) _ _ s
 rw [if_neg (by decide)]
 refine wpAny_bind (pT pl (wpAny_bind (pT pu (wpAny_bind (wpAny_pure ?_)))))
 show wpAny _ _ (match Builtin.Slice.sliceAdjust lo hi 1 (n : Int) with | (lo, hi) => pure (lo, (1 : Int), Builtin.Slice.slicePlaces lo hi 1)) _ _ s
 rw [xT lo hi n]
 show wpAny _ _ (pure (((sIx n 0 lo : Nat) : Int), (1 : Int), Builtin.Slice.slicePlaces ((sIx n 0 lo : Nat) : Int) ((sIx n n hi : Nat) : Int) 1)) _ _ s
 rw [zB]
 exact wpAny_pure h
theorem EH (xs : Array Value) (i k : Nat) : ((List.range k).filterMap fun (m : Nat) => xs[((i : Int) + (m : Int) * 1).toNat]?).toArray = ((xs.toList.drop i).take k).toArray := by
 have e : (fun (m : Nat) => xs[((i : Int) + (m : Int) * 1).toNat]?) = fun m => xs[i + m]? := by
  funext m
  have : ((i : Int) + (m : Int) * 1).toNat = i + m := by omega
  rw [this]
 rw [e]
 have := pick_run xs i k
 rw [List.filterMap_map] at this
 have e2 : ((fun x => xs[x]?) ∘ fun x => i + x) = fun m => xs[i + m]? := rfl
 rw [e2] at this
 rw [this]
theorem getItem_tuple_cut {t sl : Addr} {items : Array Value} {vl vu : Value} {lo hi : Option Int} {Q : Value -> Shared -> Prop} (ht : IsTup s.heap t items) (hs : s.heap.IsSliceOf sl vl vu .none) (pl : IsPart vl lo) (pu : IsPart vu hi)
 (hw : ¬ (sIx items.size 0 lo = 0 /\ sIx items.size items.size hi = items.size))
 (h : Q (.ref s.heap.objs.size) { s with heap := s.heap.push { cls := .type "tuple", data := .seq ((items.toList.drop (sIx items.size 0 lo)).take (sIx items.size items.size hi - sIx items.size 0 lo)).toArray } })
 (hsz : items.size <= sizeLine) : wpAny (model prog w) A (getItem (.ref t) (.ref sl)) Q E s := by
 have htake : sizeOk (.seq ((items.toList.drop (sIx items.size 0 lo)).take (sIx items.size items.size hi - sIx items.size 0 lo)).toArray) := by
  show ((items.toList.drop (sIx items.size 0 lo)).take (sIx items.size items.size hi - sIx items.size 0 lo)).toArray.size <= sizeLine
  rw [List.size_toArray, List.length_take, List.length_drop, Array.length_toList]
  omega
 have hj : sIx items.size items.size hi <= items.size := SZ _ _ (Nat.le_refl _) hi
 obtain ⟨os, hos, hcs, hds⟩ := id hs
 have hTs : s.TypeIs (.ref sl) "slice" := ⟨os, hos, hcs⟩
 unfold getItem
 try with_reducible refine wpAny_holding ?_
 first | refine wpAny_bind (wpAny_pure ?_) | skip
 refine wpAny_bind (wpAny_sequenceKey ht.typeIs (by decide) ?_)
 refine wpAny_bind (wpAny_callSpecial?_slot (name := Str.ofString "__getitem__") ht.typeIs PyProof.Rows.slot_tuple_getitem
  (wpAny_call_entry PyProof.Rows.slot_tuple_getitem ht.typeIs entry_tuple_getitem ?_ (args_tuple_getitem _ _)))
 show wpAny _ _ (Builtin.Tuple.tupleItemsOf (.ref t) >>= _) _ _ s
 refine wpAny_bind (tupleItemsOf_ ht ?_)
 refine wpAny_bind (wpAny_typeOf hTs ?_)
 rw [if_pos (by decide)]
 refine wpAny_bind (gW hs pl pu ?_)
 have hno : ¬ ((((sIx items.size 0 lo : Nat) : Int) == 0 && (1 : Int) == 1 && (sIx items.size items.size hi - sIx items.size 0 lo) == items.size) = true) := by
  intro q
  rw [Bool.and_eq_true, Bool.and_eq_true] at q
  have q1 : ((sIx items.size 0 lo : Nat) : Int) = 0 := eq_of_beq q.1.1
  have q2 : sIx items.size items.size hi - sIx items.size 0 lo = items.size := eq_of_beq q.2
  exact hw ⟨by omega, by omega⟩
 show wpAny _ _ (if (((sIx items.size 0 lo : Nat) : Int) == 0 && (1 : Int) == 1 && (sIx items.size items.size hi - sIx items.size 0 lo) == items.size) = true then _ else _) _ _ s
 rw [if_neg hno, EH]
 first
  | exact wpAny_bind (m := Builtin.Tuple.tupleExact _) (wpAny_newObj_type (wpAny_pure ⟨_, rfl, wpAny_pure h⟩) htake)
  | exact wpAny_bind (m := Builtin.Tuple.tupleExact _) (wpAny_newObj_type (wpAny_bind (wpAny_pure (wpAny_pure ⟨_, rfl, wpAny_pure h⟩))) htake)
  | exact wpAny_bind (wpAny_bind (m := Builtin.Tuple.tupleExact _) (wpAny_newObj_type (wpAny_pure (wpAny_pure ⟨_, rfl, wpAny_pure h⟩)) htake))
  | exact wpAny_bind (wpAny_bind (m := Builtin.Tuple.tupleExact _) (wpAny_newObj_type (wpAny_pure ⟨_, rfl, wpAny_pure h⟩) htake))
end
end HT
namespace L2
open PySem PySem.Spec PyProof.Rows
abbrev TO := St -> Hp -> (Option Int -> Hp -> Prop) -> Prop
def PO (X : Cx) (e : Option Expr) (t : TO) : Prop :=
 ∀ (pins : List (Addr × Obj)) (s : Shared) (σ : St) (H : Hp) (Q : Option Int -> Hp -> Prop), Inv X pins σ H s -> t σ H Q ->
  wpAny (model X.prog X.w) X.A (evalPart e X.env) (fun u s' => ∃ o H', Inv X pins σ H' s' /\ IsPart u o /\ Q o H') X.xe s
def zZ : TO := fun _ H Q => Q none H
def PF (t : TE) : TO := fun σ H Q => t σ H fun x H1 => ∃ i, x = .int i /\ Q (some i) H1
section
variable {X : Cx} {e : Expr} {te : TE} {lo hi : Option Expr} {tl th : TO} {pos p2 : Pos}
theorem OC : PO X none zZ := by
 intro pins s σ H Q I h
 rw [evalPart_none]
 exact wpAny_pure ⟨none, H, I, .none, h⟩
theorem MN (h : PE X e te) : PO X (some e) (PF te) := by
 intro pins s σ H Q I hw
 rw [evalPart_some]
 refine thn (h pins s σ H _ I hw) fun u s1 ⟨x, H1, I1, r1, q1⟩ => ?_
 obtain ⟨i, rfl, q⟩ := q1
 obtain ⟨t, rfl⟩ := r1
 exact ⟨some i, H1, I1, .int i t, q⟩
def SlR (X : Cx) (r : V -> Option Int -> Option Int -> Hp -> VK -> Prop) : Prop :=
 ∀ (pins : List (Addr × Obj)) (s : Shared) (σ : St) (H : Hp) (x : V) (v vl vu : Value) (lo hi : Option Int) (sl : Addr) (Q : VK), Inv X pins σ H s -> RelV x v -> s.heap.IsSliceOf sl vl vu .none -> IsPart vl lo -> IsPart vu hi -> r x lo hi H Q ->
  ∃ T id, typeLookup (.type T) "__getitem__" = pure (some (.builtin id)) /\ s.TypeIs v T /\ wpAny (model X.prog X.w) X.A (getItem v (.ref sl)) (EP X pins σ Q) X.xe s
theorem SlR.or {r r' : V -> Option Int -> Option Int -> Hp -> VK -> Prop} (h : SlR X r) (h' : SlR X r') : SlR X (fun x lo hi H Q => r x lo hi H Q \/ r' x lo hi H Q) := by
 intro pins s σ H x v vl vu lo hi sl Q I rx hs pl pu q
 rcases q with q | q
 · exact h pins s σ H x v vl vu lo hi sl Q I rx hs pl pu q
 · exact h' pins s σ H x v vl vu lo hi sl Q I rx hs pl pu q
def tSl (r : V -> Option Int -> Option Int -> Hp -> VK -> Prop) (te : TE) (tl th : TO) : TE := fun σ H Q => te σ H fun x H1 => tl σ H1 fun l H2 => th σ H2 fun u H3 => r x l u H3 Q
theorem GX {r : V -> Option Int -> Option Int -> Hp -> VK -> Prop} (hr : SlR X r) (he : PE X e te) (hl : PO X lo tl) (hu : PO X hi th) : PE X (.Subscript e (.Slice lo hi none p2) pos) (tSl r te tl th) := by
 intro pins s σ H Q I h
 refine Subscript_ (thn (he pins s σ H _ I h) fun v s1 ⟨x, H1, I1, r1, q1⟩ => ?_)
 refine wpAny_Slice (thn (hl pins s1 σ H1 _ I1 q1) fun vl s2 ⟨l, H2, I2, pl, q2⟩ => thn (hu pins s2 σ H2 _ I2 q2) fun vu s3 ⟨u, H3, I3, pu, q3⟩ => ?_)
 rw [evalPart_none]
 refine wpAny_pure ?_
 have I4 : Inv X pins σ H3 { s3 with heap := s3.heap.push { cls := .type "slice", data := .fields #[vl, vu, .none] } } := I3.kept (t' := s3.toks) fun b ob q => Heap.get?_push_of_some _ q
 obtain ⟨T, id, hT, ht, hg⟩ := hr pins { s3 with heap := s3.heap.push { cls := .type "slice", data := .fields #[vl, vu, .none] } } σ H3 x v vl vu l u s3.heap.objs.size Q I4 r1 (Heap.IsSliceOf.new ..) pl pu q3
 show wpAny (model X.prog X.w) X.A (subscriptTail e (.Slice lo hi none p2) v (.ref s3.heap.objs.size)) (EP X pins σ Q) X.xe { s3 with heap := s3.heap.push { cls := .type "slice", data := .fields #[vl, vu, .none] } }
 exact tail_any (ops := [.ref s3.heap.objs.size, v]) ht hT hg (by with_unfolding_all rfl)
def nG (xs : List V) (lo hi : Option Int) : List V := (xs.drop (HT.sIx xs.length 0 lo)).take (HT.sIx xs.length xs.length hi - HT.sIx xs.length 0 lo)
theorem oA (xs : List V) (lo hi : Option Int) : (nG xs lo hi).length <= xs.length := by
 unfold nG
 rw [List.length_take, List.length_drop]
 omega
def ZF (K : PySem.W.Frag) : V -> Option Int -> Option Int -> Hp -> VK -> Prop := fun x lo hi H Q => ∃ a xs, x = .ref a /\ SqT K H a xs /\
 ¬ (HT.sIx xs.length 0 lo = 0 /\ HT.sIx xs.length xs.length hi = xs.length) /\ ∀ p, H p = none -> Q (.ref p) (upd H p (.tup (nG xs lo hi)))
theorem sl_tup : SlR X (ZF X.K) := by
 intro pins s σ H x v vl vu lo hi sl Q I rx hs pl pu h
 obtain ⟨a, xs, rfl, hx, hw, q⟩ := h
 cases rx
 obtain ⟨its, r, ht, hz⟩ := I.tuple hx
 have hlen : its.toArray.size = xs.length := by rw [List.size_toArray]; exact r.length.symm
 refine ⟨"tuple", _, PyProof.Rows.slot_tuple_getitem.lookup, ht.typeIs, ?_⟩
 refine HT.getItem_tuple_cut ht hs pl pu (by rw [hlen]; exact hw) ?_ (by rw [hlen]; exact hz)
 rw [hlen]
 refine ⟨.ref s.heap.objs.size, _, I.laid (t' := s.toks) (o := .tup (nG xs lo hi)) (fun b ob q => Heap.get?_push_of_some _ q) (Nat.le_refl _) ?_, rfl, q _ (I.hok.fresh (Nat.le_refl _))⟩
 exact ⟨Nat.le_trans (oA xs lo hi) hz, _, (r.drop (HT.sIx xs.length 0 lo)).take (HT.sIx xs.length xs.length hi - HT.sIx xs.length 0 lo), IsTup.new _ _⟩
def FS (K : PySem.W.Frag) : R2 := fun x y H Q => ∃ a b xs ys, x = .ref a /\ y = .ref b /\ SqT K H a xs /\ SqT K H b ys /\ xs ≠ [] /\ xs.length + ys.length <= sizeLine /\
 (ys = [] -> Q (.ref a) H) /\ (ys ≠ [] -> ∀ p, H p = none -> Q (.ref p) (upd H p (.tup (xs ++ ys))))
theorem Vals.nil_iff {xs : List V} {us : List Value} (r : Vals xs us) : us = [] ↔ xs = [] := by
 cases r with
 | nil => simp
 | cons _ _ => simp
theorem KB : OpR X (binaryOp .Add) (FS X.K) := by
 intro pins s σ H x y v u Q I rx ry h
 obtain ⟨a, b, xs, ys, rfl, rfl, ha, hb, hx, hz, q1, q2⟩ := h
 cases rx
 cases ry
 obtain ⟨its, r1, p1, _⟩ := I.tuple ha
 obtain ⟨its2, r2, p2, _⟩ := I.tuple hb
 refine HT.cat_tup p1 p2 (fun z => hx (r1.nil_iff.mp z)) (fun z => ⟨.ref a, H, I, rfl, q1 (r2.nil_iff.mp z)⟩) (fun z => ?_) (by rw [<- r1.length, <- r2.length]; exact hz)
 refine ⟨.ref s.heap.objs.size, _, I.laid (t' := s.toks) (o := .tup (xs ++ ys)) (fun b ob q => Heap.get?_push_of_some _ q) (Nat.le_refl _) ?_, rfl, q2 (fun w => z (r2.nil_iff.mpr w)) _ (I.hok.fresh (Nat.le_refl _))⟩
 exact ⟨by rw [List.length_append]; exact hz, _, r1.append r2, IsTup.new _ _⟩
end
end L2
namespace L2
open PySem PySem.Spec PyProof.Rows
def ixN (n : Nat) (i : Int) : Option Nat := if 0 <= i then (if i < n then some i.toNat else none) else if -(n : Int) <= i then some (i + n).toNat else none
def atI {α : Type} (xs : List α) (i : Int) : Option α := (ixN xs.length i).bind fun j => xs[j]?
theorem BJ {n : Nat} {i : Int} {j : Nat} (h : ixN n i = some j) : seqIndex? i n = some j /\ j < n /\ -(n : Int) <= i /\ i < n := by
 unfold ixN at h
 by_cases h0 : 0 <= i
 · rw [if_pos h0] at h
   by_cases h1 : i < n
   · rw [if_pos h1] at h
     have e : i.toNat = j := Option.some.inj h
     exact ⟨by rw [seqIndex_of h0 h1, e], by omega, by omega, h1⟩
   · rw [if_neg h1] at h; cases h
 · rw [if_neg h0] at h
   by_cases h1 : -(n : Int) <= i
   · rw [if_pos h1] at h
     have e : (i + n).toNat = j := Option.some.inj h
     exact ⟨by rw [seqIndex_neg (by omega) h1, e], by omega, h1, by omega⟩
   · rw [if_neg h1] at h; cases h
theorem tW {α : Type} {xs : List α} {i : Int} {v : α} (h : atI xs i = some v) : ∃ j, seqIndex? i xs.length = some j /\ xs[j]? = some v /\ j < xs.length /\ -(xs.length : Int) <= i /\ i < xs.length := by
 unfold atI at h
 cases e : ixN xs.length i with
 | none => rw [e] at h; cases h
 | some j =>
  rw [e] at h
  obtain ⟨h1, h2, h3, h4⟩ := BJ e
  exact ⟨j, h1, h, h2, h3, h4⟩
theorem AL {α : Type} {xs : List α} {j : Nat} {v : α} (h : xs[j]? = some v) : atI xs (j : Int) = some v := by
 have hj : j < xs.length := (List.getElem?_eq_some_iff.mp h).1
 have e : ixN xs.length (j : Int) = some j := by
  unfold ixN
  rw [if_pos (by omega), if_pos (by omega)]; simp
 unfold atI; rw [e]; exact h
def zU (b : Expr) : Prop := ∀ o i, subscripted b false o i = operate [o, i] (getItem o i)
def IxR (X : Cx) (r : R2) : Prop :=
 ∀ (value slice : Expr) (pins : List (Addr × Obj)) (s : Shared) (σ : St) (H : Hp) (x y : V) (v u : Value) (Q : VK), Inv X pins σ H s -> RelV x v -> RelV y u -> r x y H Q ->
  subscripted slice false v u = operate [v, u] (getItem v u) -> wpAny (model X.prog X.w) X.A (subscriptTail value slice v u) (EP X pins σ Q) X.xe s
def MtR (X : Cx) (id : String) (r : V -> List V -> Hp -> VK -> Prop) : Prop :=
 ∀ (pins : List (Addr × Obj)) (s : Shared) (σ : St) (H : Hp) (x : V) (xs : List V) (v : Value) (us : List Value) (Q : VK), Inv X pins σ H s -> RelV x v -> Vals xs us -> r x xs H Q ->
  wpAny (model X.prog X.w) X.A (call (.builtin id) (v :: us)) (EP X pins σ Q) X.xe s
section
variable {X : Cx} {a b : Expr} {ta tb : TE} {pos : Pos}
theorem IxR.or {r r' : R2} (h : IxR X r) (h' : IxR X r') : IxR X (fun x y H Q => r x y H Q \/ r' x y H Q) := by
 intro value slice pins s σ H x y v u Q I rx ry q hs
 rcases q with q | q
 · exact h value slice pins s σ H x y v u Q I rx ry q hs
 · exact h' value slice pins s σ H x y v u Q I rx ry q hs
theorem ZP {r : R2} (hr : IxR X r) (ha : PE X a ta) (hb : PE X b tb) (hs : zU b) : PE X (.Subscript a b pos) (tOp r ta tb) := by
 intro pins s σ H Q I h
 exact Subscript_ (TX ha hb I h fun v u s2 x y H2 I2 rx ry q => hr a b pins s2 σ H2 x y v u Q I2 rx ry q (hs _ _))
def YR (K : PySem.W.Frag) : R2 := fun x y H Q => ∃ p xs i v, x = .ref p /\ y = .int i /\ SqL K H p xs /\ atI xs i = some v /\ Q v H
def WV (K : PySem.W.Frag) : R2 := fun x y H Q => ∃ p xs i v, x = .ref p /\ y = .int i /\ SqT K H p xs /\ atI xs i = some v /\ Q v H
def XH : R2 := fun x y H Q => ∃ z i c, x = .str z /\ y = .int i /\ z.length <= sizeLine /\ atI z.cps.toList i = some c /\ Q (.str ⟨#[c]⟩) H
theorem ix_list : IxR X (YR X.K) := by
 intro value slice pins s σ H x y v u Q I rx ry h hs
 obtain ⟨p, xs, i, z, rfl, rfl, hq, he, q⟩ := h
 cases rx
 obtain ⟨t, rfl⟩ := ry
 obtain ⟨its, r, pl, hz⟩ := I.list hq
 obtain ⟨j, h1, h2, h3, h4, h5⟩ := tW he
 obtain ⟨w, ew, rw'⟩ := r.get h2
 have hl := r.length
 have hn := nA
 have fin : EP X pins σ Q w s := ⟨z, H, I, rw', q⟩
 by_cases h0 : 0 <= i
 · have hj : i.toNat = j := by
    rw [seqIndex_of h0 h5] at h1
    exact Option.some.inj h1
   exact item_listR pl.isList h0 (by omega) (by rw [hj]; simpa using ew) fin hs
 · have hj : (i + (its.toArray.size : Int)).toNat = j := by
    rw [seqIndex_neg (by omega) h4] at h1
    rw [List.size_toArray, <- hl]
    exact Option.some.inj h1
   exact subscriptTail_builtinR (x := w) pl.isList.typeIs slot_list_getitem.lookup
    (wpAny_getItem_list_neg (Q := fun r s' => r = w /\ EP X pins σ Q r s') pl.isList (by omega) (by rw [List.size_toArray] <;> omega) (by omega) (by rw [hj]; simpa using ew) ⟨rfl, fin⟩) hs
theorem ix_tup : IxR X (WV X.K) := by
 intro value slice pins s σ H x y v u Q I rx ry h hs
 obtain ⟨p, xs, i, z, rfl, rfl, hq, he, q⟩ := h
 cases rx
 obtain ⟨t, rfl⟩ := ry
 obtain ⟨its, r, pl, hz⟩ := I.tuple hq
 obtain ⟨j, h1, h2, h3, h4, h5⟩ := tW he
 obtain ⟨w, ew, rw'⟩ := r.get h2
 have hl := r.length
 have hn := nA
 have fin : EP X pins σ Q w s := ⟨z, H, I, rw', q⟩
 exact subscriptTail_builtinR (x := w) pl.typeIs slot_tuple_getitem.lookup
  (getItem_tuple (j := j) (Q := fun r s' => r = w /\ EP X pins σ Q r s') pl (by omega) (by omega) (by rw [List.size_toArray, <- hl]; exact h1) (by simpa using ew) ⟨rfl, fin⟩) hs
theorem VN : IxR X XH := by
 intro value slice pins s σ H x y v u Q I rx ry h hs
 obtain ⟨z, i, c, rfl, rfl, hz, he, q⟩ := h
 obtain ⟨t, rfl⟩ := rx
 obtain ⟨t', rfl⟩ := ry
 obtain ⟨j, h1, h2, h3, h4, h5⟩ := tW he
 have hl : z.cps.toList.length = z.length := by simp [Str.length]
 rw [hl] at h1 h4 h5
 have hn := nA
 exact tail_any (typeIs_str s z t) slot_str_getitem.lookup (getItem_str (c := c) (by
  have e1 : decide (i < -(2 ^ 63 : Int)) = false := decide_eq_false (by omega)
  have e2 : decide (i >= 2 ^ 63) = false := decide_eq_false (by omega)
  rw [e1, e2, Bool.or_false]) (by rw [h1]; simpa using h2) ⟨.str ⟨#[c]⟩, H, I.tok _, ⟨_, rfl⟩, q⟩) hs
def rIx (K : PySem.W.Frag) : R2 := fun x y H Q => YR K x y H Q \/ WV K x y H Q \/ XH x y H Q
theorem VQ : IxR X (rIx X.K) := ix_list.or (ix_tup.or VN)
theorem yP (its : List Value) (n j : Nat) (u : Value) : Obj.mapSeq (·.setIfInBounds j u) { cls := .type "list", data := .seq its.toArray n } = { cls := .type "list", data := .seq (its.set j u).toArray n } := by
 simp [Obj.mapSeq]
theorem Inv.lst {pins : List (Addr × Obj)} {σ : St} {H : Hp} {s : Shared} {p : Addr} {xs : List V} (I : Inv X pins σ H s) (h : H p = some (.lst xs)) :
 ∃ (its : List Value) (n : Nat), Vals xs its /\ s.heap.get? p = some { cls := .type "list", data := .seq its.toArray n } /\ xs.length <= sizeLine := by
 obtain ⟨z, its, n, r, e⟩ := I.hok p _ h
 exact ⟨its, n, r, e, z⟩
theorem Inv.lstUpd {pins : List (Addr × Obj)} {σ : St} {H : Hp} {s : Shared} {p : Addr} {xs ys : List V} {its its' : List Value} {n n' : Nat} {f : Obj -> Obj} (I : Inv X pins σ H s) (h : H p = some (.lst xs))
 (ho : s.heap.get? p = some { cls := .type "list", data := .seq its.toArray n }) (hf : f { cls := .type "list", data := .seq its.toArray n } = { cls := .type "list", data := .seq its'.toArray n' }) (r : Vals ys its') (hz : ys.length <= sizeLine) (t : Nat) :
 Inv X pins σ (upd H p (.lst ys)) { s with heap := s.heap.update p f, toks := t } := by
 have e : (s.heap.update p f).get? p = some { cls := .type "list", data := .seq its'.toArray n' } := by
  rw [Heap.get?_update_self f ho (by rw [hf] <;> rfl), hf]
 refine I.write (x := p) (e := p) (by rw [h]; trivial) (.inl rfl) (fun b u hb q => (Heap.get?_update_other _ _ (Ne.symm hb)).trans q) ⟨_, e⟩ ?_
 exact ⟨hz, its', n', r, e⟩
def QC : V -> V -> V -> Hp -> (Hp -> Prop) -> Prop := fun o i v H Q => ∃ p xs k j, o = .ref p /\ i = .int k /\ H p = some (.lst xs) /\ ixN xs.length k = some j /\ Q (upd H p (.lst (xs.set j v)))
theorem set_list : UH X QC := by
 intro pins s σ H o i v ov iv u Q I ro ri rv h
 obtain ⟨p, xs, k, j, rfl, rfl, hp, hj, q⟩ := h
 cases ro
 obtain ⟨t, rfl⟩ := ri
 obtain ⟨its, n, r, ho, hz⟩ := I.lst hp
 obtain ⟨h1, h2, h3, h4⟩ := BJ hj
 have hl := r.length
 have hn := nA
 have I' : Inv X pins σ (upd H p (.lst (xs.set j v))) { s with heap := s.heap.update p (Obj.mapSeq (·.setIfInBounds j u)) } :=
  I.lstUpd hp ho (yP its n j u) (r.set rv j) (by rw [List.length_set]; exact hz) s.toks
 by_cases h0 : 0 <= k
 · have hk : k.toNat = j := by
    rw [seqIndex_of h0 h4] at h1
    exact Option.some.inj h1
   exact PySem.W.ki_setAt ho h0 (by omega) (by rw [List.size_toArray, <- hl]; exact h4) (by rw [hk]; exact ⟨_, I', q⟩)
 · have hk : (k + (its.toArray.size : Int)).toNat = j := by
    rw [seqIndex_neg (by omega) h3] at h1
    rw [List.size_toArray, <- hl]
    exact Option.some.inj h1
   exact PySem.W.ki_setBack ho (by omega) (by rw [List.size_toArray, <- hl]; exact h3) (by omega) (by rw [hk]; exact ⟨_, I', q⟩)
theorem uU (lo hi : Option Int) (n : Nat) : (sliceBounds lo hi none n).1 = ((HT.sIx n 0 lo : Nat) : Int) /\ (sliceBounds lo hi none n).2.1 = ((HT.sIx n n hi : Nat) : Int) /\ (sliceBounds lo hi none n).2.2 = 1 := by
 refine ⟨?_, ?_, rfl⟩
 · cases lo with
   | none => simp [sliceBounds, HT.sIx]
   | some i =>
    simp only [sliceBounds, HT.sIx, Option.getD_none, show (1 : Int) > 0 by decide, if_true]
    by_cases h : i < 0
    · simp only [h, if_true] <;> omega
    · simp only [h, if_false] <;> omega
 · cases hi with
   | none => simp [sliceBounds, HT.sIx]
   | some i =>
    simp only [sliceBounds, HT.sIx, Option.getD_none, show (1 : Int) > 0 by decide, if_true]
    by_cases h : i < 0
    · simp only [h, if_true] <;> omega
    · simp only [h, if_false] <;> omega
theorem qT (its : List Value) (lo hi : Option Int) : slicePick its.toArray lo hi none = ((its.drop (HT.sIx its.length 0 lo)).take (HT.sIx its.length its.length hi - HT.sIx its.length 0 lo)).toArray := by
 obtain ⟨h1, h2, h3⟩ := uU lo hi its.toArray.size
 unfold slicePick
 rw [h1, h2, h3]
 simp only [sliceRange_one, pick_run, List.size_toArray] <;> rfl
def ZJ (K : PySem.W.Frag) : V -> Option Int -> Option Int -> Hp -> VK -> Prop := fun x lo hi H Q => ∃ a xs, x = .ref a /\ SqL K H a xs /\ ∀ p, H p = none -> Q (.ref p) (upd H p (.lst (nG xs lo hi)))
theorem sl_list : SlR X (ZJ X.K) := by
 intro pins s σ H x v vl vu lo hi sl Q I rx hs pl pu h
 obtain ⟨a, xs, rfl, hx, q⟩ := h
 cases rx
 obtain ⟨its, r, ht, hz⟩ := I.list hx
 have hlen := r.length
 refine ⟨"list", _, slot_list_getitem.lookup, ht.isList.typeIs, ?_⟩
 refine wpAny_getItem_list_slice ht.isList hs pl pu .none (by simp) ?_ (by rw [List.size_toArray] <;> omega)
 rw [qT, <- hlen]
 refine ⟨.ref s.heap.objs.size, _, I.laid (t' := s.toks) (o := .lst (nG xs lo hi)) (fun b ob q => Heap.get?_push_of_some _ q) (Nat.le_refl _) ?_, rfl, q _ (I.hok.fresh (Nat.le_refl _))⟩
 exact ⟨Nat.le_trans (oA xs lo hi) hz, _, 0, (r.drop (HT.sIx xs.length 0 lo)).take (HT.sIx xs.length xs.length hi - HT.sIx xs.length 0 lo), Heap.get?_push_size _ rfl⟩
theorem uI : fJ X (.builtin "len") (fun xs H Q => ∃ p ys, xs = [.ref p] /\ (SqL X.K H p ys \/ SqT X.K H p ys) /\ Q (.int ys.length) H) := by
 intro pins s σ H xs us Q I r h
 obtain ⟨p, ys, rfl, hq, q⟩ := h
 obtain ⟨u, rfl, rx⟩ := vals1 r
 cases rx
 have hn := nA
 rcases hq with hq | hq
 · obtain ⟨its, r', pl, hz⟩ := I.list hq
   have hlen := r'.length
   exact Calls.call_len_list pl.isList (by simp only [List.size_toArray] <;> omega) ⟨.int ys.length, H, I.tok _, ⟨s.toks + 1, by rw [List.size_toArray, hlen]⟩, q⟩
 · obtain ⟨its, r', pl, hz⟩ := I.tuple hq
   have hlen := r'.length
   exact len_tuple pl (by simp only [List.size_toArray] <;> omega) ⟨.int ys.length, H, I.tok _, ⟨s.toks + 1, by rw [List.size_toArray, hlen]⟩, q⟩
theorem uG : fJ X (.type "list") (fun xs H Q => ∃ p ys, xs = [.ref p] /\ (SqL X.K H p ys \/ SqT X.K H p ys) /\ ∀ l, H l = none -> Q (.ref l) (upd H l (.lst ys))) := by
 intro pins s σ H xs us Q I r h
 obtain ⟨p, ys, rfl, hq, q⟩ := h
 obtain ⟨u, rfl, rx⟩ := vals1 r
 cases rx
 have fin : ∀ (its : List Value), Vals ys its -> ys.length <= sizeLine -> ∀ (h' : Heap) (c' : Nat), (∀ b o', s.heap.get? b = some o' -> h'.get? b = some o') ->
  h'.get? s.heap.objs.size = some { cls := .type "list", dict := none, data := .seq its.toArray c', slots := #[] } -> EP X pins σ Q (.ref s.heap.objs.size) { s with heap := h' } := fun its r' hz h' c' kp e =>
  ⟨.ref s.heap.objs.size, _, I.laid (t' := s.toks) kp (Nat.le_refl _) (show ObjOk X.prog X.w _ h' _ (.lst ys) from ⟨hz, its, c', r', e⟩), rfl, q _ (I.hok.fresh (Nat.le_refl _))⟩
 rcases hq with hq | hq
 · obtain ⟨its, r', pl, hz⟩ := I.list hq
   have hlen := r'.length
   obtain ⟨o, ho, hc, n, hd⟩ := pl.isList
   exact call_list_seq p (.inl rfl) ho hc hd (fun h' c' kp e => fin its r' hz h' c' kp e) (by simp only [List.size_toArray] <;> omega)
 · obtain ⟨its, r', pl, hz⟩ := I.tuple hq
   have hlen := r'.length
   obtain ⟨o, ho, hc, n, hd⟩ := pl
   exact call_list_seq p (.inr rfl) ho hc hd (fun h' c' kp e => fin its r' hz h' c' kp e) (by simp only [List.size_toArray] <;> omega)
theorem rE : fJ X (.type "tuple") (fun xs H Q => ∃ p ys, xs = [.ref p] /\ ((SqL X.K H p ys /\ ∀ l, H l = none -> Q (.ref l) (upd H l (.tup ys))) \/ (SqT X.K H p ys /\ Q (.ref p) H))) := by
 intro pins s σ H xs us Q I r h
 obtain ⟨p, ys, rfl, h⟩ := h
 obtain ⟨u, rfl, rx⟩ := vals1 r
 cases rx
 rcases h with ⟨hq, q⟩ | ⟨hq, q⟩
 · obtain ⟨its, r', pl, hz⟩ := I.list hq
   have hlen := r'.length
   refine call_tuple_list pl.isList (fun h' kp => ?_) (by simp only [List.size_toArray] <;> omega)
   have I1 : Inv X pins σ H { s with heap := h' } := I.kept (t' := s.toks) kp
   have I2 : Inv X pins σ (upd H h'.objs.size (.tup ys)) { s with heap := h'.push { cls := .type "tuple", data := .seq its.toArray } } :=
    I1.laid (t' := s.toks) (fun b o e => Heap.get?_push_of_some _ e) (Nat.le_refl _) (show ObjOk X.prog X.w _ _ _ (.tup ys) from ⟨hz, its, r', IsTup.new _ _⟩)
   exact ⟨.ref h'.objs.size, _, I2, rfl, q _ (I1.hok.fresh (Nat.le_refl _))⟩
 · obtain ⟨its, r', pl, hz⟩ := I.tuple hq
   exact call_tuple_same pl ⟨.ref p, H, I, rfl, q⟩
def tyV (K : PySem.W.Frag) (T : String) (x : V) (H : Hp) : Prop := match x with
 | .str _ => T = "str"
 | .int _ => T = "int"
 | .ref p => (T = "list" /\ ∃ xs, SqL K H p xs) \/ (T = "tuple" /\ ∃ o, K.lookup p = some o /\ o.cls = .type "tuple" /\ o.dict = none) \/
  (T = "dict" /\ ((∃ kvs, H p = some (.dK kvs)) \/ ∃ kvs, H p = some (.dT kvs))) \/ (T = "set" /\ ∃ S n, H p = some (.set S n))
 | _ => False
theorem GI {pins : List (Addr × Obj)} {σ : St} {H : Hp} {s : Shared} {T : String} {x : V} {v : Value} (I : Inv X pins σ H s) (r : RelV x v) (ty : tyV X.K T x H) :
 s.TypeIs v T /\ ∀ a, v = .ref a -> ∃ ob, s.heap.get? a = some ob /\ ob.dict = none := by
 cases x with
 | str z =>
  obtain ⟨t, rfl⟩ := r
  cases (show T = "str" from ty)
  exact ⟨typeIs_str s z t, fun _ e => nomatch e⟩
 | int i =>
  obtain ⟨t, rfl⟩ := r
  cases (show T = "int" from ty)
  exact ⟨typeIs_int s i t, fun _ e => nomatch e⟩
 | ref p =>
  cases r
  rcases ty with ⟨rfl, xs, hq⟩ | ⟨rfl, o, hk, hc, hd⟩ | ⟨rfl, hk⟩ | ⟨rfl, S, n, hk⟩
  · obtain ⟨its, _, pl, _⟩ := I.list hq
    refine ⟨pl.isList.typeIs, fun a e => ?_⟩
    cases e
    obtain ⟨o, n, e, c, hd, _⟩ := pl
    exact ⟨o, e, hd⟩
  · refine ⟨⟨o, I.kIn p o hk, hc⟩, fun a e => ?_⟩
    cases e
    exact ⟨o, I.kIn _ o hk, hd⟩
  · have z : ∃ o, s.heap.get? p = some o /\ o.ExactDict := by
     rcases hk with ⟨kvs, hk⟩ | ⟨kvs, hk⟩
     · obtain ⟨_, _, _, _, o, _, _, e, ex, _⟩ := I.hok p _ hk
       exact ⟨o, e, ex⟩
     · obtain ⟨_, _, _, _, o, _, _, e, ex, _⟩ := I.hok p _ hk
       exact ⟨o, e, ex⟩
    obtain ⟨o, e, ex⟩ := z
    refine ⟨⟨o, e, ex.1⟩, fun a e2 => ?_⟩
    cases e2
    exact ⟨o, e, ex.2.1⟩
  · obtain ⟨o, _, _, _, e, ex, _⟩ := I.hok p _ hk
    refine ⟨⟨o, e, ex.1⟩, fun a e2 => ?_⟩
    cases e2
    exact ⟨o, e, ex.2.1⟩
 | _ => exact False.elim ty
def WT (K : PySem.W.Frag) (T : String) (r : V -> List V -> Hp -> VK -> Prop) (to : TE) : TE := fun σ H Q => to σ H fun x H1 => tyV K T x H1 /\ r x [] H1 Q
def tBM (K : PySem.W.Frag) (T : String) (r : V -> List V -> Hp -> VK -> Prop) (to : TE) (t : TA) : TE := fun σ H Q => to σ H fun x H1 => tyV K T x H1 /\ t σ H1 fun xs H2 => r x xs H2 Q
variable {o e : Expr} {es : List Expr} {to : TE} {t : TA} {name : Str} {apos cpos : Pos} {T id : String} {r : V -> List V -> Hp -> VK -> Prop}
theorem UY (pa : PlainAttrs T) (slot : Slot T name id) (hty : typeOf (.builtin id) = pure (.type "method_descriptor")) (hm : MtR X id r) (ho : PE X o to)
 (hbase : attributeBase o name X.env (eval o X.env) = eval o X.env := by rfl) (hline : (apos.endLine == cpos.line) = true := by rfl) : PE X (.Call (.Attribute o name apos) [] [] cpos) (WT X.K T r to) := by
 intro pins s σ H Q I h
 refine wpAny_Call_method0_late hbase hline (thn (ho pins s σ H _ I h) fun v s1 ⟨x, H1, I1, r1, ty, q1⟩ => ?_)
 obtain ⟨h1, h2⟩ := GI I1 r1 ty
 exact ⟨T, id, pa, slot, hty, h1, h2, Calls.callWith_builtin rfl (PySem.evalArgs_none (hm pins s1 σ H1 x [] v [] Q I1 r1 .nil q1))⟩
theorem HC (pa : PlainAttrs T) (slot : Slot T name id) (hty : typeOf (.builtin id) = pure (.type "method_descriptor")) (hm : MtR X id r) (ho : PE X o to) (ha : PA X (e :: es) t)
 (hbase : attributeBase o name X.env (eval o X.env) = eval o X.env := by rfl)
 (hfew : ((backTo cpos (starEach (e :: es) X.env)).all (fun x => !x.1) && (backToKw cpos (keywordEach [] X.env)).all (fun x => x.1.isSome)
  && decide ((e :: es).length + ([] : List Keyword).length + (if ([] : List Keyword).isEmpty then 0 else 1) < 30)) = true := by rfl)
 (hline : (apos.endLine == cpos.line) = true := by rfl) (hs : starEach (e :: es) X.env = (false, eval e X.env) :: starEach es X.env := by rfl) (hplain : (backTo cpos (starEach es X.env)).any (·.1) = false := by rfl) :
 PE X (.Call (.Attribute o name apos) (e :: es) [] cpos) (tBM X.K T r to t) := by
 intro pins s σ H Q I h
 refine wpAny_Call_method_late hbase hfew hline rfl (thn (ho pins s σ H _ I h) fun v s1 ⟨x, H1, I1, r1, ty, q1⟩ => ?_)
 obtain ⟨h1, h2⟩ := GI I1 r1 ty
 refine ⟨T, id, pa, slot, hty, h1, h2, ?_⟩
 have hA := ha cpos pins s1 σ H1 _ I1 q1
 rw [hs] at hA ⊢
 refine Calls.callWith_builtin (by show (false || (backTo cpos (starEach es X.env)).any (·.1)) = false; rw [hplain] <;> rfl) (Calls.evalArgs_plain ?_)
 exact thn hA fun us s2 ⟨vs, H2, I2, r2, q2⟩ => hm pins s2 σ H2 x vs v us Q I2 r1 r2 q2
/- xs.append(e), list.index on a module's tuple .. are MtR facts of 06m -/
end
end L2
namespace L2
open PySem PySem.Spec PyProof.Rows
def MtM (X : Cx) (id : String) (r : V -> List V -> Hp -> VK -> Prop) : Prop :=
 ∀ (pins : List (Addr × Obj)) (s : Shared) (σ : St) (H : Hp) (x : V) (xs : List V) (v : Value) (us : List Value) (Q : VK), Inv X pins σ H s -> RelV x v -> Vals xs us -> r x xs H Q ->
  wpAny (model X.prog X.w) X.A (call (.builtin id) (v :: us)) (EP X pins σ Q) X.xe s
theorem Vals.one : ∀ {x : V} {us : List Value}, Vals [x] us -> ∃ u, us = [u] /\ RelV x u
 | _, _, .cons r .nil => ⟨_, rfl, r⟩
theorem Vals.zero : ∀ {us : List Value}, Vals [] us -> us = []
 | _, .nil => rfl
theorem Vals.dropLast {xs : List V} {us : List Value} (h : Vals xs us) : Vals xs.dropLast us.dropLast := by
 induction h with
 | nil => exact .nil
 | cons r t ih =>
  cases t with
  | nil => exact .nil
  | cons q t' => exact .cons r ih
theorem yA {α : Type} (l : List α) : l.eraseIdx (l.length - 1) = l.dropLast := by
 induction l with
 | nil => rfl
 | cons a r ih =>
  cases r with
  | nil => rfl
  | cons b r =>
   have e : (a :: b :: r).length - 1 = ((b :: r).length - 1) + 1 := by
    have h1 : (a :: b :: r).length = r.length + 2 := rfl
    have h2 : (b :: r).length = r.length + 1 := rfl
    omega
   rw [e, List.eraseIdx_cons_succ, ih]
   all_goals rfl
section
variable {X : Cx} {pins : List (Addr × Obj)} {σ : St} {H : Hp} {s : Shared} {l b : Addr} {xs ys zs : List V}
theorem Inv.lset {its its' : List Value} {n : Nat} {f : Array Value -> Array Value} {t' : Nat} (I : Inv X pins σ H s) (hH : H l = some (.lst xs))
 (e : s.heap.get? l = some { cls := .type "list", data := .seq its.toArray n }) (hf : f its.toArray = its'.toArray) (hv : Vals ys its') (hz : ys.length <= sizeLine) :
 Inv X pins σ (upd H l (.lst ys)) { s with heap := s.heap.update l (Obj.mapSeq f), toks := t' } := by
 have q := PySem.IsL.update e f
 rw [hf] at q
 refine I.write (x := l) (e := l) (by rw [hH]; exact trivial) (.inl rfl) (fun b' u hb hu => (Heap.get?_update_other s.heap (Obj.mapSeq f) (Ne.symm hb)).trans hu) ⟨_, q⟩ ?_
 exact ⟨hz, its', _, hv, q⟩
theorem Inv.lnew {its : List Value} {t' : Nat} (I : Inv X pins σ H s) (hv : Vals ys its) (hz : ys.length <= sizeLine) :
 Inv X pins σ (upd H s.heap.objs.size (.lst ys)) { s with heap := s.heap.push { cls := .type "list", data := .seq its.toArray }, toks := t' } :=
 I.laid (fun _ _ q => Heap.get?_push_of_some _ q) (Nat.le_refl _) ⟨hz, its, 0, hv, Heap.get?_push_size _ rfl⟩
theorem Inv.fresh (I : Inv X pins σ H s) : H s.heap.objs.size = none := I.hok.fresh (Nat.le_refl _)
theorem Inv.lstM (I : Inv X pins σ H s) (hH : H l = some (.lst xs)) : xs.length <= sizeLine /\ ∃ (its : List Value) (n : Nat), Vals xs its /\ xs.length = its.length /\ s.heap.get? l = some { cls := .type "list", data := .seq its.toArray n } := by
 obtain ⟨z, its, n, r, e⟩ := I.hok l _ hH
 exact ⟨z, its, n, r, r.length, e⟩
end
section
variable {X : Cx}
def AN : V -> List V -> Hp -> VK -> Prop := fun x vs H Q => ∃ l xs y, x = .ref l /\ vs = [y] /\ H l = some (.lst xs) /\ xs.length < sizeLine /\ Q .non (upd H l (.lst (xs ++ [y])))
theorem DS : MtM X "list.append" AN := by
 intro pins s σ H x vs v us Q I rx rv h
 obtain ⟨l, xs, y, rfl, rfl, hH, hz, q⟩ := h
 cases rx
 obtain ⟨u, rfl, ru⟩ := rv.one
 obtain ⟨z, its, n, r, hl, e⟩ := I.lstM hH
 refine call_meets F.slot_list_append ⟨_, e, rfl⟩ F.entry_list_append (F.args_list_append_2 _ _) (PySem.list_append l its.toArray n u (by rw [List.size_toArray]; omega)) ⟨e, ?_⟩
 refine ⟨.non, _, I.lset (its' := its ++ [u]) hH e (by simp) (r.append (.cons ru .nil)) ?_, rfl, q⟩
 rw [List.length_append, List.length_singleton]
 omega
def XM : V -> List V -> Hp -> VK -> Prop := fun x vs H Q => ∃ l xs y, x = .ref l /\ vs = [] /\ H l = some (.lst xs) /\ xs[xs.length - 1]? = some y /\ Q y (upd H l (.lst xs.dropLast))
theorem UB : MtM X "list.pop" XM := by
 intro pins s σ H x vs v us Q I rx rv h
 obtain ⟨l, xs, y, rfl, rfl, hH, hy, q⟩ := h
 cases rx
 have hus := rv.zero
 subst hus
 obtain ⟨z, its, n, r, hl, e⟩ := I.lstM hH
 obtain ⟨u, hu, ru⟩ := r.get hy
 have hy' : its.toArray[its.toArray.size - 1]? = some u := by
  show its.toArray[its.length - 1]? = some u
  rw [<- Array.getElem?_toList, <- hl]
  exact hu
 refine call_meets F.slot_list_pop ⟨_, e, rfl⟩ F.entry_list_pop (F.args_list_pop_1 _) (MeetsSeq.list_pop_last l its.toArray n u hy' (by rw [List.size_toArray]; omega)) ⟨e, ?_⟩
 refine ⟨y, _, I.lset (its' := its.dropLast) hH e ?_ r.dropLast ?_, ru, q⟩
 · show its.toArray.eraseIdxIfInBounds (its.toArray.size - 1) = its.dropLast.toArray
   rw [List.size_toArray, List.eraseIdxIfInBounds_toArray, yA]
 · rw [List.length_dropLast]
   omega
end
end L2
namespace L2
open PySem PySem.Spec PyProof.Rows
section
variable {κ : Type} [DecidableEq κ]
def iT (kvs : List (κ × V)) (k : κ) : Option V := (kvs.find? fun kv => decide (kv.1 = k)).map (·.2)
def putK (kvs : List (κ × V)) (k : κ) (v : V) : List (κ × V) :=
 if (kvs.any fun kv => decide (kv.1 = k)) = true then kvs.map (fun kv => if kv.1 = k then (kv.1, v) else kv) else kvs ++ [(k, v)]
theorem qR {p : κ × V} {r : List (κ × V)} {k : κ} (e : p.1 = k) : iT (p :: r) k = some p.2 := by simp [iT, List.find?_cons, e]
theorem pR {p : κ × V} {r : List (κ × V)} {k : κ} (e : ¬ p.1 = k) : iT (p :: r) k = iT r k := by simp [iT, List.find?_cons, e]
theorem wK (k : κ) : ∀ kvs : List (κ × V), (kvs.any fun kv => decide (kv.1 = k)) = (iT kvs k).isSome
 | [] => rfl
 | p :: r => by
  rw [List.any_cons]
  by_cases e : p.1 = k
  · simp only [qR e, decide_eq_true e, Bool.true_or, Option.isSome_some]
  · rw [pR e, decide_eq_false e, Bool.false_or]; exact wK k r
theorem eN (kvs : List (κ × V)) (k : κ) (v : V) : (putK kvs k v).length <= kvs.length + 1 := by
 unfold putK
 split
 · rw [List.length_map]; omega
 · rw [List.length_append, List.length_cons, List.length_nil]; omega
theorem RelO.isSome_eq {o : Option V} {u : Option Value} (r : RelO o u) : o.isSome = u.isSome := by
 cases o with
 | none => cases u with
  | none => rfl
  | some _ => exact (show False from r).elim
 | some _ => cases u with
  | none => exact (show False from r).elim
  | some _ => rfl
theorem KV.val {kvs : List (κ × V)} {vs : List (κ × Value)} (r : KV kvs vs) (k : κ) : RelO (iT kvs k) (valueAt vs k) := by
 unfold KV at r
 induction r with
 | nil => exact True.intro
 | @cons p q ps qs h t ih =>
  obtain ⟨h1, h2⟩ := h
  by_cases e : p.1 = k
  · have e' : q.1 = k := h1.symm.trans e
    have b : valueAt (q :: qs) k = some q.2 := by simp [valueAt, List.find?_cons, e']
    rw [qR e, b]; exact h2
  · have e' : ¬ q.1 = k := fun z => e (h1.trans z)
    have b : valueAt (q :: qs) k = valueAt qs k := by simp [valueAt, List.find?_cons, e']
    rw [pR e, b]; exact ih
theorem KV.any {kvs : List (κ × V)} {vs : List (κ × Value)} (r : KV kvs vs) (k : κ) : (kvs.any fun kv => decide (kv.1 = k)) = vs.any fun kv => decide (kv.1 = k) := by
 unfold KV at r
 induction r with
 | nil => rfl
 | cons h t ih => rw [List.any_cons, List.any_cons, ih, h.1]
theorem KV.repl {kvs : List (κ × V)} {vs : List (κ × Value)} (r : KV kvs vs) (k : κ) {y : V} {u : Value} (ry : RelV y u) :
 KV (kvs.map fun kv => if kv.1 = k then (kv.1, y) else kv) (vs.map fun kv => if kv.1 = k then (kv.1, u) else kv) := by
 unfold KV at r ⊢
 induction r with
 | nil => exact .nil
 | @cons p q ps qs h t ih =>
  rw [List.map_cons, List.map_cons]
  refine .cons ?_ ih
  obtain ⟨h1, h2⟩ := h
  by_cases e : p.1 = k
  · rw [if_pos e, if_pos (h1.symm.trans e)]; exact ⟨h1, ry⟩
  · rw [if_neg e, if_neg (fun z => e (h1.trans z))]; exact ⟨h1, h2⟩
theorem KV.put {kvs : List (κ × V)} {vs : List (κ × Value)} (r : KV kvs vs) (k : κ) {y : V} {u : Value} (ry : RelV y u) : KV (putK kvs k y) (stored vs k u) := by
 unfold putK stored
 rw [r.any k]
 by_cases e : (vs.any fun kv => decide (kv.1 = k)) = true
 · rw [if_pos e, if_pos e]; exact r.repl k ry
 · rw [if_neg e, if_neg e]; exact Paired.snoc r ⟨rfl, ry⟩
theorem KV.keys {kvs : List (κ × V)} {vs : List (κ × Value)} (r : KV kvs vs) : kvs.map (·.1) = vs.map (·.1) := by
 unfold KV at r
 induction r with
 | nil => rfl
 | cons h t ih => rw [List.map_cons, List.map_cons, ih, h.1]
theorem KV.length {kvs : List (κ × V)} {vs : List (κ × Value)} (r : KV kvs vs) : kvs.length = vs.length := Paired.length r
end
theorem wN {P : Program} {w : World} {k : Key} {u : Value} (r : RelV (kV k) u) : (bV P w).is k u = true := by
 cases k with
 | inl i => obtain ⟨t, e⟩ := (show ∃ t, u = Value.int i t from r); subst e; exact xJ P w i t
 | inr x => obtain ⟨t, e⟩ := (show ∃ t, u = Value.str x t from r); subst e; exact xR P w x t
theorem sY {P : Program} {w : World} : ∀ {ks : List Key} {us : List Value}, Vals (ks.map kV) us -> ItemsAre (bV P w) ks us
 | [], _, r => by rw [List.map_nil] at r; cases r; exact .nil
 | k :: ks, _, r => by
  rw [List.map_cons] at r
  cases r with
  | cons h t => exact .cons (wN h) (sY t)
abbrev KT (H : Hp) : List (List Key × V) -> List (List Key × Addr × Value) -> Prop := Paired fun p q => p.1 = q.1 /\ H q.2.1 = some (.tup (p.1.map kV)) /\ RelV p.2 q.2.2
theorem KT.val {H : Hp} {kvs : List (List Key × V)} {xs : List (List Key × Addr × Value)} (r : KT H kvs xs) (k : List Key) : RelO (iT kvs k) ((atKey xs k).map (·.2)) := by
 induction r with
 | nil => exact True.intro
 | @cons p q ps qs h t ih =>
  obtain ⟨h1, _, h2⟩ := h
  by_cases e : p.1 = k
  · have e' : q.1 = k := h1.symm.trans e
    have b : atKey (q :: qs) k = some q.2 := by simp [atKey, List.find?_cons, e']
    rw [qR e, b]; exact h2
  · have e' : ¬ q.1 = k := fun z => e (h1.trans z)
    have b : atKey (q :: qs) k = atKey qs k := by simp [atKey, List.find?_cons, e']
    rw [pR e, b]; exact ih
theorem KT.repl {H : Hp} {kvs : List (List Key × V)} {xs : List (List Key × Addr × Value)} (r : KT H kvs xs) (k : List Key) {y : V} {u : Value} (ry : RelV y u) :
 KT H (kvs.map fun kv => if kv.1 = k then (kv.1, y) else kv) (xs.map (putAt k u)) := by
 induction r with
 | nil => exact .nil
 | @cons p q ps qs h t ih =>
  rw [List.map_cons, List.map_cons]
  refine .cons ?_ ih
  obtain ⟨h1, h2, h3⟩ := h
  unfold putAt
  by_cases e : p.1 = k
  · rw [if_pos e, if_pos (h1.symm.trans e)]; exact ⟨h1, h2, ry⟩
  · rw [if_neg e, if_neg (fun z => e (h1.trans z))]; exact ⟨h1, h2, h3⟩
theorem KT.put {H : Hp} {kvs : List (List Key × V)} {xs : List (List Key × Addr × Value)} (r : KT H kvs xs) (k : List Key) {b : Addr} {y : V} {u : Value} (hb : H b = some (.tup (k.map kV))) (ry : RelV y u) :
 KT H (putK kvs k y) (storedH xs k b u) := by
 have e : (kvs.any fun kv => decide (kv.1 = k)) = (atKey xs k).isSome := by
  rw [wK, (r.val k).isSome_eq, Option.isSome_map]
 unfold putK storedH
 rw [e]
 by_cases q : (atKey xs k).isSome = true
 · rw [if_pos q, if_pos q]; exact r.repl k ry
 · rw [if_neg q, if_neg q]; exact Paired.snoc r ⟨rfl, hb, ry⟩
theorem KT.keeps {H H' : Hp} {kvs : List (List Key × V)} {xs : List (List Key × Addr × Value)} (r : KT H kvs xs) (ht : ∀ b ys, H b = some (.tup ys) -> H' b = some (.tup ys)) : KT H' kvs xs :=
 Paired.mapP r fun _ _ z => ⟨z.1, ht _ _ z.2.1, z.2.2⟩
section
variable {P : Program} {w : World} {H : Hp} {h : Heap} {a : Addr}
theorem PP {u : HO} (ok : HOk P w H h) (e : Rd H a u) : ObjOk P w H h a u := e.ok ok
theorem FB {kvs : List (Key × V)} (ok : HOk P w H h) (e : Rd H a (.dK kvs)) : kvs.length <= sizeLine /\ (a == sysModules) = false /\ ∃ vs, KV kvs vs /\ h.DictOf (bV P w) a vs :=
 show ObjOk P w H h a (.dK kvs) from PP ok e
theorem vY {kvs : List (Key × V)} (ok : HOk P w H h) (e : H a = some (.dK kvs)) : kvs.length <= sizeLine /\ (a == sysModules) = false /\ ∃ vs, KV kvs vs /\ h.DictOf (bV P w) a vs := FB ok (.inl e)
theorem qL {ks : List Key} (ok : HOk P w H h) (e : H a = some (.tup (ks.map kV))) : (tupleKind (bV P w)).is h ks a := by
 obtain ⟨_, its, r, o, h1, h2, n, h3⟩ := (show ObjOk P w H h a (.tup (ks.map kV)) from ok a _ e)
 exact ⟨o, its.toArray, n, h1, h2, h3, by simpa using sY r⟩
theorem HQ {kvs : List (List Key × V)} (ok : HOk P w H h) (e : Rd H a (.dT kvs)) : kvs.length <= sizeLine /\ (a == sysModules) = false /\
 ∃ xs, KT H kvs xs /\ h.DictOfH (tupleKind (bV P w)) a xs := by
 obtain ⟨z, y, xs, r, o, es, ep, h1, h2, h3, h4, h5⟩ := (show ObjOk P w H h a (.dT kvs) from PP ok e)
 refine ⟨z, y, xs, r, o, es, ep, h1, h2, h3, h4, fun x hx => ?_, h5⟩
 have all : ∀ {l : List (List Key × V)} {m : List (List Key × Addr × Value)}, KT H l m -> ∀ x ∈ m, (tupleKind (bV P w)).is h x.1 x.2.1 := by
  intro l m q
  induction q with
  | nil => intro x hx; exact nomatch hx
  | @cons p q ps qs hq t ih =>
   intro x hx
   rcases List.mem_cons.mp hx with e | hx
   · subst e
     exact qL ok (by rw [<- hq.1]; exact hq.2.1)
   · exact ih x hx
 exact all r x hx
theorem QL {kvs : List (List Key × V)} (ok : HOk P w H h) (e : H a = some (.dT kvs)) : kvs.length <= sizeLine /\ (a == sysModules) = false /\
 ∃ xs, KT H kvs xs /\ h.DictOfH (tupleKind (bV P w)) a xs := HQ ok (.inl e)
end
def DGet (H : Hp) (a : Addr) (y : V) (r : Option V) : Prop :=
 (∃ kvs k, Rd H a (.dK kvs) /\ y = kV k /\ r = iT kvs k) \/ ∃ kvs k b, Rd H a (.dT kvs) /\ y = .ref b /\ H b = some (.tup (k.map kV)) /\ r = iT kvs k
def DPut (H : Hp) (a : Addr) (y v : V) (H' : Hp) : Prop :=
 (∃ kvs k, H a = some (.dK kvs) /\ y = kV k /\ kvs.length < sizeLine /\ H' = upd H a (.dK (putK kvs k v))) \/
 ∃ kvs k b, H a = some (.dT kvs) /\ y = .ref b /\ H b = some (.tup (k.map kV)) /\ kvs.length < sizeLine /\ H' = upd H a (.dT (putK kvs k v))
theorem DGet.k {H : Hp} {a : Addr} {kvs : List (Key × V)} {k : Key} (e : H a = some (.dK kvs)) : DGet H a (kV k) (iT kvs k) := .inl ⟨kvs, k, .inl e, rfl, rfl⟩
theorem DGet.t {H : Hp} {a b : Addr} {kvs : List (List Key × V)} {k : List Key} (e : H a = some (.dT kvs)) (eb : H b = some (.tup (k.map kV))) : DGet H a (.ref b) (iT kvs k) := .inr ⟨kvs, k, b, .inl e, rfl, eb, rfl⟩
theorem DPut.k {H : Hp} {a : Addr} {kvs : List (Key × V)} {k : Key} {v : V} (e : H a = some (.dK kvs)) (hl : kvs.length < sizeLine) : DPut H a (kV k) v (upd H a (.dK (putK kvs k v))) := .inl ⟨kvs, k, e, rfl, hl, rfl⟩
theorem DPut.t {H : Hp} {a b : Addr} {kvs : List (List Key × V)} {k : List Key} {v : V} (e : H a = some (.dT kvs)) (eb : H b = some (.tup (k.map kV))) (hl : kvs.length < sizeLine) :
 DPut H a (.ref b) v (upd H a (.dT (putK kvs k v))) := .inr ⟨kvs, k, b, e, rfl, eb, hl, rfl⟩
section
variable {X : Cx} {pins : List (Addr × Obj)} {σ : St} {H : Hp} {s : Shared} {a : Addr} {y v : V} {u r : Value} {o : Option V} {A : Around} {E : Value -> Shared -> Prop}
theorem Inv.big (I : Inv X pins σ H s) : sysModules < s.heap.objs.size := by
 have h : mainGlobals < s.heap.objs.size := (I.mod.glob.keeps I.bk).lt
 exact Nat.lt_trans (by decide) h
theorem aAl {Q : Value -> Shared -> Prop} (hu : A.units + 1 < cLine) (I : Inv X pins σ H s) (g : DGet H a y o) (ry : RelV y u) (h : ∀ s', Inv X pins σ H s' -> Q (.bool o.isSome) s') :
 wpAny (model X.prog X.w) A (compareOp .In u (.ref a)) Q E s := by
 rcases g with ⟨kvs, k, e, ey, l⟩ | ⟨kvs, k, b, e, ey, eb, l⟩
 · subst ey
   obtain ⟨z, hd, vs, rel, dd⟩ := FB I.hok e
   refine wpAny_in_of (wN ry) hd dd.mapOf ?_
   rw [<- (rel.val k).isSome_eq, <- l]
   exact h _ (I.tok _)
 · subst ey
   cases (show u = Value.ref b from ry)
   obtain ⟨z, hd, xs, rel, dd⟩ := HQ I.hok e
   refine wpAny_in_heap (tupleKind_room_in1 hu) (qL I.hok eb) hd dd ?_
   have q := (rel.val k).isSome_eq
   rw [Option.isSome_map] at q
   rw [<- q, <- l]
   exact h _ (I.tok _)
theorem KI {Q : Value -> Shared -> Prop} (hu : A.units + 1 < cLine) (I : Inv X pins σ H s) (g : DGet H a y o) (ry : RelV y u) (h : ∀ s', Inv X pins σ H s' -> Q (.bool (!o.isSome)) s') :
 wpAny (model X.prog X.w) A (compareOp .NotIn u (.ref a)) Q E s := by
 rcases g with ⟨kvs, k, e, ey, l⟩ | ⟨kvs, k, b, e, ey, eb, l⟩
 · subst ey
   obtain ⟨z, hd, vs, rel, dd⟩ := FB I.hok e
   refine wpAny_notIn_of (wN ry) hd dd.mapOf ?_
   rw [<- (rel.val k).isSome_eq, <- l]
   exact h _ (I.tok _)
 · subst ey
   cases (show u = Value.ref b from ry)
   obtain ⟨z, hd, xs, rel, dd⟩ := HQ I.hok e
   refine wpAny_notIn_heap (tupleKind_room_in1 hu) (qL I.hok eb) hd dd ?_
   have q := (rel.val k).isSome_eq
   rw [Option.isSome_map] at q
   rw [<- q, <- l]
   exact h _ (I.tok _)
theorem lU {h' : Heap} {t' : Nat} {ob : HO} (I : Inv X pins σ H s) (mu : Mut (H a)) (hs : Heap.SameBut a s.heap h') (he : ∃ q, h'.get? a = some q) (new : ObjOk X.prog X.w (upd H a ob) h' a ob) :
 Inv X pins σ (upd H a ob) { s with heap := h', toks := t' } :=
 I.write (x := a) (e := a) mu (.inl rfl) (fun b q hb z => (hs.2 b hb).trans z) he new
theorem yH {P : Program} {w : World} {H' : Hp} {h' : Heap} {kvs : List (Key × V)} {vs : List (Key × Value)} (z : kvs.length <= sizeLine) (hd : (a == sysModules) = false) (rel : KV kvs vs) (dd : h'.DictOf (bV P w) a vs) :
 ObjOk P w H' h' a (.dK kvs) := ⟨z, hd, vs, rel, dd⟩
theorem CP {H' : Hp} {Q : Unit -> Shared -> Prop} (hu : A.units + 1 < cLine) (I : Inv X pins σ H s) (g : DPut H a y v H') (ry : RelV y u) (rv : RelV v r) (h : ∀ s', Inv X pins σ H' s' -> Q () s') :
 wpAny (model X.prog X.w) A (setItem (.ref a) u r) Q E s := by
 rcases g with ⟨kvs, k, e, ey, l, eH⟩ | ⟨kvs, k, b, e, ey, eb, l, eH⟩
 · subst ey eH
   obtain ⟨z, hd, vs, rel, dd⟩ := vY I.hok e
   have hz : vs.length <= sizeLine := by rw [<- rel.length]; exact z
   have hl : (putK kvs k v).length <= sizeLine := by have := eN kvs k v; omega
   refine wpAny_setItem_pairs (hsz := hz) (wN ry) dd fun h' dd' hs => h _ ?_
   have he : ∃ q, h'.get? a = some q := let ⟨q, _, _, hq, _⟩ := dd'; ⟨q, hq⟩
   exact lU I (by rw [e]; exact True.intro) hs he (yH hl hd (rel.put k rv) dd')
 · subst ey eH
   cases (show u = Value.ref b from ry)
   obtain ⟨z, hd, xs, rel, dd⟩ := QL I.hok e
   have hz : xs.length <= sizeLine := by rw [<- Paired.length rel]; exact z
   have hl : (putK kvs k v).length <= sizeLine := by have := eN kvs k v; omega
   refine wpAny_setItem_heap (hsz := hz) (tupleKind_room_in1 hu) (qL I.hok eb) dd fun h' dd' hs => h _ ?_
   obtain ⟨q, es, ep, hq, h2, h3, h4, _, h5⟩ := dd'
   refine lU I (by rw [e]; exact True.intro) hs ⟨q, hq⟩ ⟨hl, hd, _, (rel.put k eb rv).keeps fun c ys ec => ?_, q, es, ep, hq, h2, h3, h4, h5⟩
   rw [aL (QE ec e (fun z => nomatch z))]
   exact ec
end
def WO (ty td : TE) : TE := fun σ H Q => ty σ H fun y H1 => td σ H1 fun x H2 => ∃ a o, x = .ref a /\ DGet H2 a y o /\ Q (.bl o.isSome) H2
def AO (ty td : TE) : TE := fun σ H Q => ty σ H fun y H1 => td σ H1 fun x H2 => ∃ a o, x = .ref a /\ DGet H2 a y o /\ Q (.bl (!o.isSome)) H2
def QB (td ty tv : TE) : TS := fun D σ H => tv σ H fun v H1 => td σ H1 fun x H2 => ty σ H2 fun y H3 => ∃ a H4, x = .ref a /\ DPut H3 a y v H4 /\ D.nx σ H4
section
variable {X : Cx} {o i e value : Expr} {pos pos' tpos : Pos} {td ty tv : TE}
theorem SH (hu : X.A.units + 1 < cLine) (hi : PE X i ty) (ho : PE X o td) : PC X .In i o (WO ty td) := by
 intro pins s σ H Q I h
 refine thn (hi pins s σ H _ I h) fun iv s1 ⟨y, H1, I1, ry, q1⟩ => thn (ho pins s1 σ H1 _ I1 q1) fun u s2 ⟨x, H2, I2, rx, a, ov, ex, g, q2⟩ => ?_
 subst ex
 obtain rfl : u = Value.ref a := rx
 exact aAl hu I2 g ry fun s3 I3 => ⟨.bl ov.isSome, H2, I3, rfl, q2⟩
theorem DG (hu : X.A.units + 1 < cLine) (hi : PE X i ty) (ho : PE X o td) : PC X .NotIn i o (AO ty td) := by
 intro pins s σ H Q I h
 refine thn (hi pins s σ H _ I h) fun iv s1 ⟨y, H1, I1, ry, q1⟩ => thn (ho pins s1 σ H1 _ I1 q1) fun u s2 ⟨x, H2, I2, rx, a, ov, ex, g, q2⟩ => ?_
 subst ex
 obtain rfl : u = Value.ref a := rx
 exact KI hu I2 g ry fun s3 I3 => ⟨.bl (!ov.isSome), H2, I3, rfl, q2⟩
theorem NM (hu : X.A.units + 1 < cLine) (ho : PE X o td) (hi : PE X i ty) (hv : PE X value tv) (hs : swapsWith value (some (.Subscript o i pos')) pos.line X.env = pure false) :
 PS X (.Assign [.Subscript o i pos'] value pos) (QB td ty tv) := by
 intro pins s σ H D I h
 refine wpAny_Assign_Subscript (thn (hv pins s σ H _ I h) fun r s1 ⟨v, H1, I1, rv, q1⟩ => thn (ho pins s1 σ H1 _ I1 q1) fun u s2 ⟨x, H2, I2, rx, q2⟩ => thn (hi pins s2 σ H2 _ I2 q2) fun iv s3 ⟨y, H3, I3, ry, a, H4, ex, g, q3⟩ => ?_) hs
 subst ex
 obtain rfl : u = Value.ref a := rx
 exact CP hu I3 g ry rv fun s4 I4 => ⟨σ, H4, I4, q3⟩
end
theorem vL {P : Program} {w : World} {H : Hp} (h : Heap) (hb : sysModules < h.objs.size) : ObjOk P w H (h.push { cls := .type "dict", data := .dict #[] }) h.objs.size (.dK []) :=
 ⟨Nat.zero_le _, beq_eq_false_iff_ne.mpr (Ne.symm (Nat.ne_of_lt hb)), [], .nil, Heap.DictOf.new h⟩
theorem vP {P : Program} {w : World} {H : Hp} (h : Heap) (hb : sysModules < h.objs.size) : ObjOk P w H (h.push { cls := .type "dict", data := .dict #[] }) h.objs.size (.dT []) :=
 ⟨Nat.zero_le _, beq_eq_false_iff_ne.mpr (Ne.symm (Nat.ne_of_lt hb)), [], .nil, _, #[], 0, Heap.get?_push_size _ rfl, ⟨rfl, rfl, rfl⟩, rfl, rfl, List.nodup_nil⟩
def IK : TE := fun _ H Q => ∀ p, H p = none -> Q (.ref p) (upd H p (.dK []))
def EM : TE := fun _ H Q => ∀ p, H p = none -> Q (.ref p) (upd H p (.dT []))
section
variable {X : Cx} {pos : Pos}
theorem GQ : PE X (.Dict [] [] pos) IK := fun pins s σ H Q I h =>
 wpAny_Dict_empty ⟨.ref s.heap.objs.size, _, I.laid (a := s.heap.objs.size) (o := .dK []) (t' := s.toks) (fun _ _ q => Heap.get?_push_of_some _ q) (Nat.le_refl _) (vL s.heap I.big), rfl, h _ (I.hok.fresh (Nat.le_refl _))⟩
theorem FD : PE X (.Dict [] [] pos) EM := fun pins s σ H Q I h =>
 wpAny_Dict_empty ⟨.ref s.heap.objs.size, _, I.laid (a := s.heap.objs.size) (o := .dT []) (t' := s.toks) (fun _ _ q => Heap.get?_push_of_some _ q) (Nat.le_refl _) (vP s.heap I.big), rfl, h _ (I.hok.fresh (Nat.le_refl _))⟩
end
def nE (kvs more : List (Key × V)) : List (Key × V) := more.foldl (fun acc kv => putK acc kv.1 kv.2) kvs
theorem KV.merge : ∀ {more : List (Key × V)} {rs : List (Key × Value)} {kvs : List (Key × V)} {vs : List (Key × Value)}, KV more rs -> KV kvs vs -> KV (nE kvs more) (merged vs rs) := by
 intro more rs kvs vs r
 unfold KV at r
 induction r generalizing kvs vs with
 | nil => intro q; exact q
 | @cons p q ps qs h t ih =>
  intro r0
  have e : KV (putK kvs p.1 p.2) (stored vs q.1 q.2) := by
   have := r0.put p.1 h.2
   rw [<- h.1]; exact this
  exact ih e
theorem kN : ∀ (more kvs : List (Key × V)), (nE kvs more).length <= kvs.length + more.length
 | [], kvs => by show kvs.length <= kvs.length + 0; omega
 | p :: r, kvs => by
  have h1 := kN r (putK kvs p.1 p.2)
  have h2 := eN kvs p.1 p.2
  show (nE (putK kvs p.1 p.2) r).length <= _
  rw [List.length_cons]; omega
structure M1 (X : Cx) (o : Expr) (m : Str) (apos : Pos) (e : Expr) (cpos : Pos) : Prop where
 base : attributeBase o m X.env (eval o X.env) = eval o X.env
 few : ((backTo cpos (starEach [e] X.env)).all (fun x => !x.1) && (backToKw cpos (keywordEach [] X.env)).all (fun x => x.1.isSome)
  && decide (([e] : List Expr).length + ([] : List Keyword).length + (if ([] : List Keyword).isEmpty then 0 else 1) < 30)) = true
 line : (apos.endLine == cpos.line) = true
 trees : backTo cpos (starEach [e] X.env) = [(false, eval e X.env)]
structure M2 (X : Cx) (o : Expr) (m : Str) (apos : Pos) (e f : Expr) (cpos : Pos) : Prop where
 base : attributeBase o m X.env (eval o X.env) = eval o X.env
 few : ((backTo cpos (starEach [e, f] X.env)).all (fun x => !x.1) && (backToKw cpos (keywordEach [] X.env)).all (fun x => x.1.isSome)
  && decide (([e, f] : List Expr).length + ([] : List Keyword).length + (if ([] : List Keyword).isEmpty then 0 else 1) < 30)) = true
 line : (apos.endLine == cpos.line) = true
 trees : backTo cpos (starEach [e, f] X.env) = [(false, eval e X.env), (false, eval f X.env)]
end L2
namespace Att
open PySem PySem.W PySem.Calls PyProof.Rows
theorem oH {P : Params} {h : Heap} : ∀ (ns : List Int) (vs : List Value), WellAll P h vs (ns.map WData.int) -> IntsAre vs ns := by
 intro ns
 induction ns with
 | nil =>
  intro vs w
  rw [List.map_nil] at w
  cases w
  exact .nil
 | cons n ns ih =>
  intro vs w
  rw [List.map_cons] at w
  cases w with
  | cons a b =>
   cases a
   exact .cons _ _ (ih _ b)
theorem DH {l : OpenLaw} {n : Nat} (hn : l.most = some n) {P : Params} {h : Heap} {args : List WData} {vals : List Value}
 (hpre : l.row.toRowW.claim.pre args = true) (hwl : WellAll P h vals args) :
 ∃ a vs ns, vals = [Value.ref a] /\ args = [WData.list (ns.map WData.int)] /\ h.get? a = some { cls := .type "list", data := .seq vs.toArray } /\ IntsAre vs ns /\ ns.length <= n := by
 have hsh : WShape.hasAll [] args [.list .int] = true := (pre_splitW hpre).1
 have hc : l.pre.holds [] { args := args } = true := (pre_splitW hpre).2
 obtain ⟨d, r, rfl, h1, h2⟩ := hasAllW_cons hsh
 obtain rfl := hasAllW_nil h2
 obtain ⟨xs, rfl, h3⟩ := hasW_list h1
 obtain ⟨ns, rfl⟩ := items_int h3
 have hlen : ns.length <= n := by
  unfold OpenLaw.pre at hc
  have h4 : (WTm.not (.lt (.lit (.int (n : Int))) (.len (.arg 0)))).holds [] { args := [.list (ns.map .int)] } = true := by
   have h4 := (holds_andW hc).1
   rw [hn] at h4
   exact h4
  have h5 := condW_of h4 (w_not (w_lt w_lit (w_len_list (w_arg rfl))))
  rw [List.length_map] at h5
  refine Nat.le_of_not_lt fun q => ?_
  have q' : (n : Int) < ((ns.length : Nat) : Int) := by omega
  first
   | (rw [decide_eq_true q'] at h5; exact absurd h5 (by decide))
   | (simp at h5; omega)
 cases hwl with
 | cons w1 w2 =>
  cases w2
  cases w1 with
  | list ho hall => exact ⟨_, _, ns, rfl, rfl, ho, oH ns _ hall, hlen⟩
theorem CQ (l : OpenLaw) (args : List WData) : l.row.toRowW.claim.post args (.bool true) args = true :=
 postW_of (r := l.row.toRowW) (X := (true == true))
  (show WShape.has [] (.bool true) .bool = true by first | rfl | decide | simp [WShape.has, WShape.arms, WShape.armsAll])
  (show (WTm.eq .res (.lit (.bool true))).value [] { args := args, res := some (.bool true), after := args } = some (.bool (true == true)) from w_eq_bool (w_res rfl) w_lit) rfl
theorem attach_call {l : OpenLaw} {n : Nat} {q : Program} {loose : List Str} {XP : (Str -> Option Value) -> Heap -> Prop} {YP : World -> Heap -> Prop} {d : DefRec}
 (hn : l.most = some n) (hdf : d.params.defaults = [])
 (call : ∀ (w : World) (s₀ s₁ : Shared) (mg mb : Str -> Option Value) (fa : Addr) (o : Obj) (pm cd doc : Value) (a : Addr) (vs : List Value) (ns : List Int),
  Ground q loose [] XP w s₀ mg mb s₁.heap -> YP w s₁.heap ->
  s₁.heap.get? fa = some o -> o.data = .func (docDef d.name d.params d.body d.scope pm cd doc) -> s₁.heap.CodeRec cd d.name -> mg d.name = some (.ref fa) ->
  s₁.heap.get? a = some { cls := .type "list", data := .seq vs.toArray } -> IntsAre vs ns -> ns.length <= n -> s₁.gens = #[] ->
  codeAny (model l.prog w) callerA (.call (.ref fa) ⟨[.ref a], []⟩) (fun r s' => r = .ok (.ret (.bool true)) /\ OldK s₁.heap s'.heap /\ s'.os = s₁.os /\ AllBare s'.gens) s₁) :
 WalkO q loose XP YP l.row.toRowW d [] (fun f vs => PySem.call f vs) := by
 intro w s₀ s₁ mg mb G Y fa o pm cd doc dV kV ho hd hcd hD hmg hg args vals as hpre hlay hrd hwl hlo
 obtain rfl : dV = .none := Dflts.none hD hdf
 obtain rfl : kV = .none := Dflts.noKw hD
 obtain ⟨a, vs, ns, rfl, rfl, hobj, hints, hlen⟩ := DH hn hpre hwl
 refine enter_call (codeAny_mono (call w s₀ s₁ mg mb fa o pm cd doc a vs ns G Y ho (fd_plain hd) hcd hmg hobj hints hlen hg) fun r s' hq => ?_)
 obtain ⟨rfl, h2, h3, h4⟩ := hq
 exact ⟨.inl ⟨.bool true, .bool true, [], rfl, fun _ => rfl, .bool true, CQ l _, fun _ => ⟨List.Pairwise.nil, fun _ hm => (nomatch hm)⟩⟩, h2, h3, h4⟩
section
variable {prog : Program} {w : World} {A : Around} {E : Value -> Shared -> Prop} {s : Shared} {K : Frag}
end
end Att
namespace L2
open PySem PySem.Spec PyProof.Rows
theorem sG : ∀ {vs : List Value} {ns : List Int}, IntsAre vs ns -> Vals (ns.map V.int) vs
 | _, _, .nil => .nil
 | _, _, .cons n t h => .cons ⟨t, rfl⟩ (sG h)
def RG (H : Hp) : Prop := ∀ b, H b = none \/ ∃ o xs, H b = some (.frz o (.lst xs))
theorem GW {P : Program} {w : World} {K : PySem.W.Frag} {mg mb : Str -> Option Value} {CX : CXT} {k : Nat} {fa a : Addr} {fd : FuncData} {x : Str} {sp : Sp} {s₁ : Shared} {vs : List Value} {ns : List Int}
 (KX : K.In s₁.heap) (hns : s₁.heap.Ns mainGlobals mg) (hb : s₁.heap.Ns builtinsNs mb) (hbb : ∀ x : Str, x ≠ "__name__" -> mb x = bootBuiltins x) (hlim : s₁.heap.NoLimit) (hsm : ∃ mm, s₁.heap.Ns sysModules mm) (hg : s₁.gens = #[])
 (ha : s₁.heap.get? a = some { cls := .type "list", data := .seq vs.toArray }) (hi : IntsAre vs ns) (hl : ns.length <= sizeLine) (hr : Room k callerA)
 (F : ∀ base : Heap, K.In base -> base.Ns mainGlobals mg -> kJ P w K mg base CX k fa fd [x] sp) (hbind : ∀ (s : Shared) (u : Value), BindsTo s fd ⟨[u], []⟩ [(x, u)])
 (hsp : ∀ H : Hp, RG H -> SqL K H a (ns.map V.int) -> sp [.ref a] H (fun v _ => v = .bl true) fun _ _ _ => False)
 (hCX : ∀ H e s', CX [] H s₁ (fun _ _ _ => False) e s' -> False) :
 codeAny (model P w) callerA (.call (.ref fa) ⟨[.ref a], []⟩) (fun r s' => r = .ok (.ret (.bool true)) /\ OldK s₁.heap s'.heap /\ s'.os = s₁.os /\ AllBare s'.gens) s₁ := by
 have rv := sG hi
 have lenV := hi.length
 have core : ∀ H : Hp, RG H -> SqL K H a (ns.map V.int) -> HOk P w H s₁.heap -> (∀ b, H b ≠ none -> b = a) -> (H a ≠ none -> K.lookup a = none) ->
  codeAny (model P w) callerA (.call (.ref fa) ⟨[.ref a], []⟩) (fun r s' => r = .ok (.ret (.bool true)) /\ OldK s₁.heap s'.heap /\ s'.os = s₁.os /\ AllBare s'.gens) s₁ := by
  intro H hO hS hok hA hK
  have base_of : ∀ {b : Addr} {o : Obj}, s₁.heap.get? b = some o -> H b = none -> (tU s₁.heap H).get? b = some o := fun e n => JW e n
  have noA : ∀ {b : Addr} {o : Obj} {es : Array DictEntry} {ep : Nat}, s₁.heap.get? b = some o -> o.data = .dict es ep -> H b = none := fun {b o es ep} e d => by
   cases q : H b with
   | none => rfl
   | some u =>
    have e' : b = a := hA b (by rw [q]; simp)
    subst e'
    rw [ha] at e; cases e
    have d' : Data.seq vs.toArray _ = Data.dict es ep := d
    cases d'
  have nsK : ∀ {b : Addr} {m : Str -> Option Value}, s₁.heap.Ns b m -> (tU s₁.heap H).Ns b m := fun {b m} ⟨o, es, ep, e, d, r⟩ => ⟨o, es, ep, base_of e (noA e d), d, r⟩
  have hKb : K.In (tU s₁.heap H) := fun b o e => base_of (KX b o e) (by
   cases q : H b with
   | none => rfl
   | some u =>
    have e' : b = a := hA b (by rw [q]; simp)
    subst e'
    rw [hK (by rw [q]; simp)] at e; cases e)
  have hM : Mod K mg (tU s₁.heap H) := ⟨hKb, nsK hns, ⟨mb, nsK hb, hbb⟩, (let ⟨mc, h1, h2⟩ := hlim; ⟨mc, nsK h1, h2⟩), (let ⟨mm, hmm⟩ := hsm; let ⟨o, es, ep, h1, h2, _⟩ := nsK hmm; ⟨o, es, ep, h1, h2⟩)⟩
  have e0 : Env0 P w K mg (tU s₁.heap H) callerA [] s₁ H := ⟨rfl, hM, fun b o e => LX e, Nat.le_of_eq (CG _ _), trivial, fun b hb => absurd (show b ∈ ([] : List Addr) from hb) (by simp), hok, .of_eq hg⟩
  refine codeAny_mono ((F _ hKb (nsK hns)).run callerA [] s₁ H ⟨[.ref a], []⟩ [.ref a] [.ref a] _ _ hr e0 (hbind s₁ (.ref a)) (.cons rfl .nil) (hsp H hO hS)) fun r s' h => ?_
  cases r with
  | error e => exact (hCX H e s' h).elim
  | ok fl =>
   cases fl with
   | next => exact False.elim h
   | brk => exact False.elim h
   | cont => exact False.elim h
   | ret u =>
    obtain ⟨v, H', os, bare, un, hok', r', q⟩ := h
    have q' : v = .bl true := q
    subst q'
    obtain rfl : u = Value.bool true := r'
    refine ⟨rfl, OldK.of_keep fun b o e => ?_, os, bare⟩
    cases q : H b with
    | none => exact un.keep b o e q (by intro z; exact absurd (show b ∈ ([] : List Addr) from z) (by simp)) (by simp)
    | some u =>
     rcases hO b with z | ⟨ob, xs, z⟩
     · rw [q] at z; cases z
     · have z2 := un.frzs b ob _ z
       obtain ⟨e1, _⟩ := hok b _ z
       obtain ⟨e2, _⟩ := hok' b _ z2
       rw [e] at e1; cases e1
       exact e2
 cases hk : K.lookup a with
 | some o =>
  have e := KX a o hk
  rw [ha] at e
  cases e
  refine core (fun _ => none) (fun _ => .inl rfl) (.inr ⟨_, vs.toArray, _, hk, rfl, rfl, rfl, by rw [List.size_toArray, lenV]; exact hl, by simpa using rv⟩) (fun b u z => by have z' : (none : Option HO) = some u := z; cases z') (fun b z => absurd rfl z) fun z => absurd rfl z
 | none =>
  refine core (fun b => if b = a then some (.frz { cls := .type "list", data := .seq vs.toArray } (.lst (ns.map V.int))) else none) (fun b => ?_) (.inl (.inr ⟨{ cls := .type "list", data := .seq vs.toArray }, if_pos rfl⟩)) (fun b u z => ?_) (fun b z => ?_) fun _ => hk
  · by_cases hb : b = a
    · exact .inr ⟨_, _, if_pos hb⟩
    · exact .inl (if_neg hb)
  · by_cases hb : b = a
    · have z' := (if_pos hb).symm.trans z
      cases z'
      subst hb
      exact ⟨ha, by rw [List.length_map]; exact hl, vs, _, rv, ha⟩
    · have z' := (if_neg hb).symm.trans z
      cases z'
  · by_cases hb : b = a
    · exact hb
    · exact absurd (if_neg hb) z
end L2
namespace L2
open PySem PySem.Spec PyProof.Rows
abbrev KOf {K : PySem.W.Frag} {h : Heap} (_ : K.In h) : PySem.W.Frag := K
theorem walk_of {l : PySem.W.OpenLaw} {n k : Nat} {q : Program} (hq : PyProof.Rows.importsNone q = true) {loose : List Str} {XP : (Str -> Option Value) -> Heap -> Prop} {YP : World -> Heap -> Prop} {d : DefRec} {K : Params -> PySem.W.Frag} {CX : World -> CXT} {sp : World -> Sp} {x : Str}
 (hn : l.most = some n) (hn2 : n <= sizeLine) (hdf : d.params.defaults = []) (hr : Room k callerA)
 (hY : ∀ (w : World) (h : Heap), YP w h -> (K w.params).In h)
 (F : ∀ (w : World) (mg : Str -> Option Value) (fa : Addr) (h : Heap), (K w.params).In h -> h.Ns mainGlobals mg -> mg d.name = some (.ref fa) ->
  ∃ fd : FuncData, (∀ (s : Shared) (u : Value), BindsTo s fd ⟨[u], []⟩ [(x, u)]) /\
   ∀ base : Heap, (K w.params).In base -> base.Ns mainGlobals mg -> kJ l.prog w (K w.params) mg base (CX w) k fa fd [x] (sp w))
 (hsp : ∀ (w : World) (H : Hp) (a : Addr) (ns : List Int), ns.length <= n -> RG H -> SqL (K w.params) H a (ns.map V.int) -> sp w [.ref a] H (fun v _ => v = .bl true) fun _ _ _ => False)
 (hCX : ∀ (w : World) (H : Hp) (s : Shared) (e : Value) (s' : Shared), CX w [] H s (fun _ _ _ => False) e s' -> False) :
 PySem.W.WalkO q loose XP YP l.row.toRowW d [] (fun f vs => PySem.call f vs) := by
 refine Att.attach_call hn hdf fun w s₀ s₁ mg mb fa o pm cd doc a vs ns G Y ho hd hcd hmg hobj hints hlen hg => ?_
 have KX := hY w _ Y
 obtain ⟨fd, hb, hF⟩ := F w mg fa _ KX G.T.g hmg
 exact GW KX G.T.g G.T.b G.T.builtins G.T.nolimit (let ⟨mm, hmm, _⟩ := (G.T.seer hq).mods; ⟨mm, hmm⟩) hg hobj hints (Nat.le_trans hlen hn2) hr hF hb (fun H hO hS => hsp w H a ns hlen hO hS) fun H e s' => hCX w H s₁ e s'
end L2
/- THE LAST THEOREM (shape; LID, My.* are yours):
 My.Adr: a structure of the addresses that your layer names (classes, functions); My.Txt K t: a structure (Prop) of the equations over K;
 My.txt_mk : {K} {implicit addresses ..} (e1 : nsIn K mainGlobals "law" = some (some (.ref f))) (e2 : K.lookup f = some ⟨oc, od, .func (fnOf "law" "law" params body scope dV kV doc pm an cdv ct), sl⟩) (e3 : codeIn K cdv "law" = true) .. : ∃ t, My.Txt K t
set_option maxRecDepth 100000 in
set_option maxHeartbeats 0 in
theorem PySem.Challenge.cw_LID_holds : PySem.Challenge.rw_LID.Holds := by
 w_on; o_law; k_head; (case hw => w_witness2)
 k_fill
 refine L2.walk_of (l := PySem.Challenge.rw_LID) (n := 63) (k := 40) (x := "script") (CX := fun w => ..) (sp := fun _ => My.sp_law) rfl (by decide) rfl ⟨rfl, by decide, by decide⟩ (fun w h Y => PySem.W.kIn_of Y) ?F ?S ?C
 case F =>
  intro w mg fa h KX G hmg
  have T : ∃ t, My.Txt (L2.KOf KX) t := by
   dsimp only [L2.KOf]                          -- K must stand as «<heap const> w.params» for k_is
   refine' My.txt_mk ?e1 ?e2 ?e3 ..
   (case e1 => PySem.W.k_is)                    -- in the order: a name -> its address -> its object -> its parts
   (case e2 => PySem.W.k_is)
   ..
  obtain ⟨t, T⟩ := T
  have e0 := hmg.symm.trans (PySem.W.mg_of KX G T.law)
  cases e0                                       -- fa is the law's own address
  exact ⟨_, fun s u => .of_eq rfl, fun base kb nb => My.law_fn T kb nb⟩     -- if «.of_eq rfl» comes too early: refine' ⟨_, ?b, fun base kb nb => My.law_fn T kb nb⟩; exact fun s u => .of_eq rfl
 case S => exact fun w H a ns hl hO hS => ..
 case C => exact ..
(the tactic k_is has no namespace: write k_is) -/
namespace L2
open PySem PySem.Spec PyProof.Rows
def inClass (s : Stmt) (j : Nat) : Stmt := match s with
 | .ClassDef _ _ _ body _ _ _ _ _ _ _ => body.getD j (.Pass ⟨0, 0, 0, 0⟩)
 | _ => .Pass ⟨0, 0, 0, 0⟩
def dD (s : Stmt) : Arguments := match s with
 | .FunctionDef _ a _ _ _ _ _ _ _ _ => a
 | _ => { posonlyargs := [], args := [], vararg := none, kwonlyargs := [], kw_defaults := [], kwarg := none, defaults := [] }
def bJ (s : Stmt) : List Stmt := match s with
 | .FunctionDef _ _ b _ _ _ _ _ _ _ => b
 | _ => []
def aE (s : Stmt) : Scope := match s with
 | .FunctionDef _ _ _ _ _ _ sc _ _ _ => sc
 | _ => { kind := .function, names := [], isGenerator := false, isCoroutine := false }
abbrev CX0 : CXT := fun _ _ _ _ _ _ => False
abbrev E0 : XK := fun _ _ _ => False
theorem PK {X : Cx} : tT CX0 X E0 := fun _ _ _ _ _ _ _ h => h.elim
structure Fun (K : PySem.W.Frag) (x qual : Str) (st : Stmt) (f : Addr) (fd : FuncData) : Prop where
 ex : ∃ (oc : Value) (od : Option Addr) (kV doc pm : Value) (an : Option Addr) (cdv ct : Value) (osl : Array (Option Value)),
  fd = PySem.W.fnOf x qual (dD st) (bJ st) (aE st) .none kV doc pm an cdv ct /\ K.lookup f = some ⟨oc, od, .func fd, osl⟩ /\ PySem.W.codeIn K cdv qual = true
 kp : PySem.W.keepIn K (.ref f) = true
section
variable {P : Program} {w : World} {K : PySem.W.Frag} {mg : Str -> Option Value} {base : Heap}
theorem Fun.ok {x qual : Str} {st : Stmt} {f : Addr} {fd : FuncData} {N ps : List Str} {k : Nat} {sp : Sp} {q : Bool} (F : Fun K x qual st f fd) (S : aT N ps (aE st)) (len : ∀ vs H Q E, sp vs H Q E -> vs.length = ps.length)
 (hbody : ∀ (cdv : Value) (A : Around) (outer : List Env) (s : Shared) (H : Hp) (vs : List V) (Q : VK) (E : XK), Room k (A.deeper (envOfC qual (aE st) s.heap.objs.size f cdv)) q -> sp vs H Q E ->
  ∃ t, PSs (lW CX0 P w K mg base N qual (aE st) f cdv A outer s H E q).nox (bJ st) t /\ t { nx := fun _ H' => Q .non H', rt := Q } (start N vs) H) : kJ P w K mg base CX0 (k + 1) f fd ps sp q := by
 obtain ⟨oc, od, kV, doc, pm, an, cdv, ct, osl, rfl, lk, hcd⟩ := F.ex
 refine ZU lk hcd S len fun A outer s H vs Q E hr hsp => ?_
 obtain ⟨t, h, z⟩ := hbody cdv A outer s H vs Q E hr hsp
 exact ⟨t, h.nox, z⟩
theorem Fun.binds {x qual : Str} {st : Stmt} {f : Addr} {fd : FuncData} {ps : List Str} (F : Fun K x qual st f fd)
 (h : ∀ (kV doc pm : Value) (an : Option Addr) (cdv ct : Value) (us : List Value), us.length = ps.length -> bindArgs (PySem.W.fnOf x qual (dD st) (bJ st) (aE st) .none kV doc pm an cdv ct) ⟨us, []⟩ = pure (ps.zip us)) : Binds K fd ps [] := by
 obtain ⟨oc, od, kV, doc, pm, an, cdv, ct, osl, rfl, lk, hcd⟩ := F.ex
 exact .all (h kV doc pm an cdv ct)
theorem EZ {x qual : Str} {st : Stmt} {f : Addr} {oc : Value} {od an : Option Addr} {osl : Array (Option Value)} {kV doc pm cdv ct : Value} (l : K.lookup f = some ⟨oc, od, .func (PySem.W.fnOf x qual (dD st) (bJ st) (aE st) .none kV doc pm an cdv ct), osl⟩)
 (c : PySem.W.codeIn K cdv qual = true) (k : PySem.W.keepIn K (.ref f) = true) : Fun K x qual st f (PySem.W.fnOf x qual (dD st) (bJ st) (aE st) .none kV doc pm an cdv ct) := ⟨⟨oc, od, kV, doc, pm, an, cdv, ct, osl, rfl, l, c⟩, k⟩
end
def Same (H H' : Hp) : Prop := ∀ b o, H b = some o -> H' b = some o
theorem Same.refl (H : Hp) : Same H H := fun _ _ h => h
theorem Same.trans {H H1 H2 : Hp} (a : Same H H1) (b : Same H1 H2) : Same H H2 := fun c o h => b c o (a c o h)
theorem Same.free {H H' : Hp} (e : Same H H') {l : Addr} (h : H' l = Option.none) : H l = Option.none := by
 cases q : H l with
 | none => rfl
 | some o =>
  rw [e l o q] at h
  cases h
theorem Same.seq {K : PySem.W.Frag} {H H' : Hp} {a : Addr} {xs : List V} (e : Same H H') (h : SqL K H a xs) : SqL K H' a xs := by
 rcases h with (h | ⟨o, h⟩) | h
 · exact .inl (.inl (e _ _ h))
 · exact .inl (.inr ⟨o, e _ _ h⟩)
 · exact .inr h
end L2
end
section
set_option Elab.async false
set_option linter.all false
set_option maxRecDepth 100000
set_option maxHeartbeats 4000000
namespace L2
open PySem PySem.Spec PyProof.Rows
def cR (env : Env) : List (Str × NameKind) -> List (Str × Addr) -> List (Str × Addr)
 | [], cs => cs
 | y :: r, cs => cR env r (if (y.2 == NameKind.free) = true then (y.1, (env.cells.lookup y.1).getD 0) :: cs else cs)
theorem kP {env : Env} : ∀ (l : List (Str × NameKind)) (cs : List (Str × Addr)), (∀ y ∈ l, y.2 = .free -> ∃ c, env.cells.lookup y.1 = some c) ->
 (forIn l cs fun (x : Str × NameKind) (r : List (Str × Addr)) => if (x.2 == NameKind.free) = true then (do
  let a <- cellOf env x.1
  pure (ForInStep.yield ((x.1, a) :: r))) else pure (ForInStep.yield r)) = (pure (cR env l cs) : Sem (List (Str × Addr)))
 | [], cs, _ => rfl
 | y :: l, cs, h => by
  rw [List.forIn_cons]
  by_cases hk : (y.2 == NameKind.free) = true
  · obtain ⟨c, hc⟩ := h y List.mem_cons_self (by simpa using hk)
    have e1 : cellOf env y.1 = pure c := by unfold cellOf; rw [hc]
    rw [if_pos hk, e1]
    show (forIn l ((y.1, c) :: cs) _ : Sem _) = _
    rw [kP l _ fun z hz => h z (List.mem_cons_of_mem _ hz)]
    conv => rhs; unfold cR
    rw [if_pos hk, hc]
    rfl
  · rw [if_neg hk]
    show (forIn l cs _ : Sem _) = _
    rw [kP l _ fun z hz => h z (List.mem_cons_of_mem _ hz)]
    conv => rhs; unfold cR
    rw [if_neg hk]
theorem pN {scope : Scope} {env : Env} (h : ∀ y ∈ scope.names, y.2 = .free -> ∃ c, env.cells.lookup y.1 = some c) : closureFor scope env = pure (cR env scope.names []) := by
 have e := kP (env := env) scope.names [] h
 unfold closureFor
 show ((forIn scope.names ([] : List (Str × Addr)) fun (x : Str × NameKind) (r : List (Str × Addr)) => if (x.2 == NameKind.free) = true then (do
  let a <- cellOf env x.1
  pure (ForInStep.yield ((x.1, a) :: r))) else pure (ForInStep.yield r)) >>= fun z => pure z : Sem (List (Str × Addr))) = _
 rw [e]
 rfl
theorem sX {env : Env} : ∀ (l : List (Str × NameKind)) (cs : List (Str × Addr)), (∀ y ∈ l, y.2 = .free -> ∃ c, env.cells.lookup y.1 = some c) -> (∀ x c, cs.lookup x = some c -> env.cells.lookup x = some c) ->
 ∀ x c, (cR env l cs).lookup x = some c -> env.cells.lookup x = some c
 | [], cs, _, h, x, c, e => h x c e
 | y :: l, cs, hf, h, x, c, e => by
  unfold cR at e
  refine sX l _ (fun z hz => hf z (List.mem_cons_of_mem _ hz)) ?_ x c e
  intro z d ez
  by_cases hk : (y.2 == NameKind.free) = true
  · rw [if_pos hk] at ez
    obtain ⟨c', hc'⟩ := hf y List.mem_cons_self (by simpa using hk)
    rw [hc'] at ez
    rw [List.lookup_cons] at ez
    by_cases hz : (z == y.1) = true
    · rw [hz] at ez
      have hz' : z = y.1 := by simpa using hz
      rw [hz', hc']
      exact ez
    · have hz' : (z == y.1) = false := by simpa using hz
      rw [hz'] at ez
      exact h z d ez
  · rw [if_neg hk] at ez
    exact h z d ez
theorem mS {env : Env} : ∀ (l : List (Str × NameKind)) (cs : List (Str × Addr)) (x : Str), ((x, NameKind.free) ∈ l \/ ∃ c, cs.lookup x = some c) -> ∃ c, (cR env l cs).lookup x = some c
 | [], cs, x, h => by
  rcases h with h | h
  · exact absurd h (by simp)
  · exact h
 | y :: l, cs, x, h => by
  unfold cR
  refine mS l _ x ?_
  rcases h with h | ⟨c, hc⟩
  · rcases List.mem_cons.mp h with e | e
    · subst e
      refine .inr ?_
      rw [if_pos (by rfl)]
      exact ⟨(env.cells.lookup x).getD 0, by rw [List.lookup_cons]; simp⟩
    · exact .inl e
  · refine .inr ?_
    by_cases hk : (y.2 == NameKind.free) = true
    · rw [if_pos hk, List.lookup_cons]
      by_cases hz : (x == y.1) = true
      · rw [hz]; exact ⟨_, rfl⟩
      · have hz' : (x == y.1) = false := by simpa using hz
        rw [hz']; exact ⟨c, hc⟩
    · rw [if_neg hk]; exact ⟨c, hc⟩
theorem lB {env : Env} : ∀ {names : List (Str × NameKind)} {x : Str} {k : NameKind},
 (names.map fun (y : Str × NameKind) => if (y.2 == NameKind.free && env.scope.kind == .function && env.kindOf y.1 == some .cell) = true then (y.1, NameKind.cell) else (y.1, y.2)).lookup x = some k ->
 (names.lookup x = some k) \/ (names.lookup x = some .free /\ k = .cell)
 | [], x, k, h => by simp at h
 | y :: r, x, k, h => by
  rw [List.map_cons] at h
  by_cases hx : (x == y.1) = true
  · by_cases hc : (y.2 == NameKind.free && env.scope.kind == .function && env.kindOf y.1 == some .cell) = true
    · rw [if_pos hc, List.lookup_cons, hx] at h
      rw [List.lookup_cons, hx]
      have : y.2 = .free := by simp at hc; exact hc.1.1
      refine .inr ⟨by rw [this], ?_⟩
      cases h; rfl
    · rw [if_neg hc, List.lookup_cons, hx] at h
      rw [List.lookup_cons, hx]
      exact .inl h
  · have hx' : (x == y.1) = false := by simpa using hx
    have h' : (r.map fun (y : Str × NameKind) => if (y.2 == NameKind.free && env.scope.kind == .function && env.kindOf y.1 == some .cell) = true then (y.1, NameKind.cell) else (y.1, y.2)).lookup x = some k := by
     by_cases hc : (y.2 == NameKind.free && env.scope.kind == .function && env.kindOf y.1 == some .cell) = true
     · rw [if_pos hc, List.lookup_cons, hx'] at h; exact h
     · rw [if_neg hc, List.lookup_cons, hx'] at h; exact h
    rw [List.lookup_cons, hx']
    exact lB h'
theorem qF {env : Env} : ∀ {names : List (Str × NameKind)} {x : Str}, names.lookup x = some .free ->
 (names.map fun (y : Str × NameKind) => if (y.2 == NameKind.free && env.scope.kind == .function && env.kindOf y.1 == some .cell) = true then (y.1, NameKind.cell) else (y.1, y.2)).lookup x = some .cell \/
 (names.map fun (y : Str × NameKind) => if (y.2 == NameKind.free && env.scope.kind == .function && env.kindOf y.1 == some .cell) = true then (y.1, NameKind.cell) else (y.1, y.2)).lookup x = some .free
 | [], x, h => by simp at h
 | y :: r, x, h => by
  rw [List.map_cons]
  by_cases hx : (x == y.1) = true
  · rw [List.lookup_cons, hx] at h
    have hy : y.2 = .free := Option.some.inj h
    by_cases hc : (y.2 == NameKind.free && env.scope.kind == .function && env.kindOf y.1 == some .cell) = true
    · rw [if_pos hc, List.lookup_cons, hx]; exact .inl rfl
    · rw [if_neg hc, List.lookup_cons, hx]; exact .inr (by rw [hy])
  · have hx' : (x == y.1) = false := by simpa using hx
    rw [List.lookup_cons, hx'] at h
    have ih := qF (env := env) h
    by_cases hc : (y.2 == NameKind.free && env.scope.kind == .function && env.kindOf y.1 == some .cell) = true
    · rw [if_pos hc, List.lookup_cons, hx']; exact ih
    · rw [if_neg hc, List.lookup_cons, hx']; exact ih
end L2
end
section
set_option Elab.async false
set_option linter.all false
set_option maxRecDepth 100000
set_option maxHeartbeats 4000000
namespace L2
open PySem PySem.Spec PyProof.Rows
def uK (X : Cx) (ifs : List Expr) (t : TT) : Prop :=
 ∀ (pins : List (Addr × Obj)) (s : Shared) (σ : St) (H : Hp) (Q : Bool -> Hp -> Prop), Inv X pins σ H s -> t σ H Q ->
  wpAny (model X.prog X.w) X.A (forIn ifs true fun c r => if r = true then (do
   let ok <- isTrue c X.env (eval c X.env)
   pure (ForInStep.yield ok)) else pure (ForInStep.yield r)) (TP X pins σ Q) X.xe s
def YD : TT := fun _ H Q => Q true H
theorem GA {X : Cx} : uK X [] YD := fun _ _ _ H _ I h => wpAny_tests_nil ⟨H, I, h⟩
theorem EW {X : Cx} {c : Expr} {t : TT} (h : PT X c t) : uK X [c] t := fun pins s σ H Q I hq => wpAny_tests_one (h pins s σ H Q I hq)
section
variable {prog : Program} {w : World} {A : Around} {R : Result -> Shared -> Prop} {s : Shared}
theorem MV {elt target iter : Expr} {ifs : List Expr} {scope : Scope} {pos : Pos} {it acc : Value} {env : Env} (I : Nat -> Shared -> Prop)
 (turn : ∀ n s, I n s -> wpAny (model prog w) A (pyNext it) (fun r s1 => (r = none /\ R (.ok .next) s1) \/ ∃ v, r = some v /\
  wpAny (model prog w) A (letOwnedTupleGo target it v) (fun _ s2 => wpAny (model prog w) A (assign target env v) (fun _ s3 =>
   wpAny (model prog w) A (forIn ifs true fun c r => if r = true then (do
    let ok <- isTrue c env (eval c env)
    pure (ForInStep.yield ok)) else pure (ForInStep.yield r)) (fun ok s4 =>
     (ok = true /\ wpAny (model prog w) A (eval elt env) (fun x s5 => wpAny (model prog w) A (call (.builtin "list.append") [acc, x]) (fun _ s6 => ∃ m, m < n /\ I m s6) (fun _ _ => False) s5) (fun _ _ => False) s4) \/
     (ok = false /\ ∃ m, m < n /\ I m s4)) (fun _ _ => False) s3) (fun _ _ => False) s2) (fun _ _ => False) s1) (fun _ _ => False) s)
 (n : Nat) (h : I n s) : codeAny (model prog w) A (.compLoop (.ListComp elt [⟨target, iter, ifs, 0⟩] scope pos) 0 it acc env) R s := by
 refine codeAny_loop rfl I (fun n s hI => ?_) n h
 show wpAny _ A ((compTurn (.ListComp elt [⟨target, iter, ifs, 0⟩] scope pos) 0 it acc env).onRaise fun x => do
  noteFrame x env
  theTreesLotGoes x) _ _ s
 refine wpAny_noted ?_
 rw [compTurn_list]
 refine wpAny_bind (wpAny_standAt (wpAny_bind (wpAny_mono (turn n s hI) (fun r s1 h1 => ?_) fun _ _ f => f.elim)))
 rcases h1 with ⟨rfl, h1⟩ | ⟨v, rfl, h1⟩
 · exact wpAny_pure h1
 · refine wpAny_bind (wpAny_mono h1 (fun _ s2 h2 => ?_) fun _ _ f => f.elim)
   refine wpAny_bind (wpAny_mono h2 (fun _ s3 h3 => ?_) fun _ _ f => f.elim)
   refine wpAny_bind (wpAny_mono h3 (fun ok s4 h4 => ?_) fun _ _ f => f.elim)
   rcases h4 with ⟨rfl, h4⟩ | ⟨rfl, h4⟩
   · refine wpAny_bind (wpAny_bind (wpAny_mono h4 (fun x s5 h5 => ?_) fun _ _ f => f.elim))
     exact wpAny_bind (wpAny_mono h5 (fun _ s6 h6 => wpAny_pure (wpAny_pure ⟨rfl, h6⟩)) fun _ _ f => f.elim)
   · exact wpAny_pure ⟨rfl, h4⟩
end
def cE (X : Cx) (N' : List Str) (scope : Scope) (C : Addr) (s2 : Shared) (H2 : Hp) (fp : List Addr) (pn : List (Addr × Obj)) : Cx :=
 { X with N := N', s₀ := s2, H₀ := H2, env := compEnvC scope (cR X.env scope.names []) C X.env, outer := X.stack, stack := X.stack, ex := fp, fn := fun _ => false, pn := X.pn ++ pn, xe := fun _ _ => False }
def oM (cap : List (Option Nat)) (σ : St) : St := cap.map fun o => o.bind fun j => (σ[j]?).join
structure LcSc (X : Cx) (N' : List Str) (cap : List (Option Nat)) (scope : Scope) : Prop where
 nocell : ∀ y ∈ scope.names, y.2 ≠ .cell
 kind : scope.kind = .function
 names : ∀ y ∈ scope.names, y.2 = .local -> scope.names.lookup y.1 = some .local
 frees : ∀ y ∈ scope.names, y.2 = .free -> X.env.kindOf y.1 = some .cell \/ X.env.kindOf y.1 = some .free
 len : cap.length = N'.length
 cap : ∀ (i j : Nat), cap[i]? = some (some j) -> ∃ x, N'[i]? = some x /\ X.N[j]? = some x /\ scope.names.lookup x = some .free
section
variable {X : Cx} {N' : List Str} {cap : List (Option Nat)} {scope : Scope} {pins : List (Addr × Obj)} {σ : St} {H : Hp} {s : Shared}
theorem LcSc.cells (S : LcSc X N' cap scope) (ok : X.Ok) : ∀ y ∈ scope.names, y.2 = .free -> ∃ c, X.env.cells.lookup y.1 = some c := fun y hy hk => ok.has y.1 (S.frees y hy hk)
theorem LcSc.sub (S : LcSc X N' cap scope) (ok : X.Ok) : ∀ x c, (cR X.env scope.names []).lookup x = some c -> X.env.cells.lookup x = some c :=
 sX scope.names [] (S.cells ok) fun x c e => by simp at e
theorem LcSc.kinds (S : LcSc X N' cap scope) {C : Addr} {cl : List (Str × Addr)} {x : Str} (h : (compEnvC scope cl C X.env).kindOf x = some .cell \/ (compEnvC scope cl C X.env).kindOf x = some .free) : scope.names.lookup x = some .free := by
 rcases h with h | h
 · rcases lB (names := scope.names) h with q | ⟨q, _⟩
   · exact absurd rfl (S.nocell _ (PySem.mem_of_lookup q))
   · exact q
 · rcases lB (names := scope.names) h with q | ⟨q, _⟩
   · exact q
   · exact q
theorem Inv.stkAll (I : Inv X pins σ H s) {b : Addr} (h1 : b ≠ X.env.locals) (h2 : b ∉ X.fs) : b ∉ frs X.stack := fun hb => (List.mem_cons.mp (I.stkSub b hb)).elim h1 h2
theorem wZ (S : LcSc X N' cap scope) (I : Inv X pins σ H s) {fp : List Addr} {h4 : Heap} {C : Addr} {tk : Nat} (hf : ∀ b ∈ fp, kI X pins H b) (hlt : ∀ b ∈ fp, b < s.heap.objs.size)
 (hC : s.heap.objs.size <= C) (hn : h4.Ns C fun _ => none) (hk : ∀ b o, s.heap.get? b = some o -> h4.get? b = some o) :
 Inv (cE X N' scope C s H fp pins) [] (oM cap σ) H { s with heap := h4, toks := tk } := by
 have cellLt : ∀ x c, X.env.cells.lookup x = some c -> c < s.heap.objs.size := fun x c e => by
  obtain ⟨v, q⟩ := I.cell x c e
  exact q.lt
 have fresh : H C = none := I.hok.fresh hC
 have ok : (cE X N' scope C s H fp pins).Ok := by
  refine ⟨I.ok.mod, S.kind, I.ok.glob, I.ok.blt, hC, fun x y c h1 h2 => ?_, fun x hx => ?_, fun x c hx _ => ?_, I.ok.hd, I.ok.frames, .inl rfl, fun b hb => ⟨?_, fun x c e => ?_⟩, I.bs, Nat.le_trans I.ok.bsz I.sz, fun b o e hb => ?_, fun b hb => ?_, I.stack, I.stkFree⟩
  · exact I.ok.inj x y c (S.sub I.ok x c h1) (S.sub I.ok y c h2)
  · exact mS scope.names [] x (.inl (PySem.mem_of_lookup (S.kinds hx)))
  · exact absurd hx (by show ¬ (false = true); decide)
  · exact Nat.ne_of_lt (Nat.lt_of_lt_of_le (hlt b hb) hC)
  · exact (hf b hb).2.2.2.2.1 x c (S.sub I.ok x c e)
  · rcases (hf b hb).2.2.2.1 with z | z
    · exact I.ok.noex b o e z
    · exact absurd (Nat.lt_of_lt_of_le (Heap.lt_size (I.ok.bs b o e).1) z) (Nat.lt_irrefl _)
  · exact I.stkAll (hf b hb).2.1 (hf b hb).2.2.1
 refine ⟨ok, rfl, I.bare, Un.kept hk, ⟨_, hn, fun i x v h1 h2 h3 => ?_⟩, fun x c e => ?_, fresh, fun x c e => I.freeC x c (S.sub I.ok x c e), fun p hp => ?_, I.hok.kept hk, ?_⟩
 · -- a name that is caught
   have h2' : (cap[i]?).map (fun o => o.bind fun j => (σ[j]?).join) = some (some v) := by
    have : (oM cap σ)[i]? = some (some v) := h2
    unfold oM at this
    rw [List.getElem?_map] at this
    exact this
   cases e : cap[i]? with
   | none => rw [e] at h2'; simp at h2'
   | some o =>
    cases o with
    | none => rw [e] at h2'; simp at h2'
    | some j =>
     rw [e] at h2'
     obtain ⟨x', a1, a2, a3⟩ := S.cap i j e
     have ex : x' = x := by
      have : N'[i]? = some x := h1
      rw [a1] at this
      exact Option.some.inj this
     subst ex
     have sv : σ[j]? = some (some v) := by
      have q : (σ[j]?).join = some v := Option.some.inj h2'
      cases f : σ[j]? with
      | none => rw [f] at q; simp at q
      | some o => rw [f] at q; cases o with
       | none => simp at q
       | some v' => simp at q; rw [q]
     have hv : X.env.kindOf x' = some .cell \/ X.env.kindOf x' = some .free := S.frees _ (PySem.mem_of_lookup a3) rfl
     obtain ⟨m, hm, hl⟩ := I.loc
     obtain ⟨u, r, l⟩ := hl j x' v a2 sv (hv.elim (fun z => .inr (.inl z)) fun z => .inr (.inr z))
     refine ⟨u, r, .inr ⟨?_, ?_⟩⟩
     · exact qF (env := X.env) (names := scope.names) a3
     · rcases l with ⟨hk', _⟩ | ⟨_, c, hc, o, ho, hd⟩
       · rcases hv with z | z <;> rw [z] at hk' <;> cases hk'
       · obtain ⟨c', hc'⟩ := mS (env := X.env) scope.names [] x' (.inl (PySem.mem_of_lookup a3))
         have := S.sub I.ok x' c' hc'
         rw [hc] at this
         cases this
         exact ⟨c, hc', o, hk c o ho, hd⟩
 · obtain ⟨v, o, ho, hd⟩ := I.cell x c (S.sub I.ok x c e)
   exact ⟨v, o, hk c o ho, hd⟩
 · have hp' : p ∈ X.pn ++ pins := by
    rcases List.mem_append.mp hp with z | z
    · exact z
    · exact absurd z (by simp)
   obtain ⟨e, n, ne, nf, d⟩ := I.pin p hp'
   exact ⟨hk _ _ e, n, Nat.ne_of_lt (Nat.lt_of_lt_of_le (Heap.lt_size e) hC), I.stkAll ne nf, d⟩
 · show (oM cap σ).length = N'.length
   unfold oM
   rw [List.length_map]
   exact S.len
end
def tLc (cap : List (Option Nat)) (wi : TI) (g : TG) (tc : TT) (te : TE) : TE := fun σ H Q => wi σ H fun J H1 => ∃ W : Nat -> Nat -> List V -> St -> Hp -> Prop, (∃ m, W 0 m [] (oM cap σ) H1) /\ ∀ i m acc σ' H', W i m acc σ' H' ->
 (J.stop i H' /\ ∀ p, H' p = none -> Q (.ref p) (upd H' p (.lst acc))) \/
 (J.go i H' /\ acc.length < sizeLine /\ ∃ N : List V -> St -> Hp -> Prop, (∀ acc' σ2 H2, N acc' σ2 H2 -> ∃ m', m' < m /\ W (i + 1) m' acc' σ2 H2) /\ ∀ x H2, J.yld i H' x H2 -> g x σ' H2 fun σ2 H3 => tc σ2 H3 fun b H4 => (b = true /\ te σ2 H4 fun v H5 => N (acc ++ [v]) σ2 H5) \/ (b = false /\ N acc σ2 H4))
section
variable {X : Cx} {N' : List Str} {cap : List (Option Nat)} {scope : Scope}
theorem HH {elt tg iter : Expr} {ifs : List Expr} {pos : Pos} {wi : TI} {g : TG} {tc : TT} {te : TE} (hc : X.calm = true) (S : LcSc X N' cap scope) (hi : PI X tg iter wi)
 (hg : ∀ C s H fp pn, PG (cE X N' scope C s H fp pn) tg g) (hif : ∀ C s H fp pn, uK (cE X N' scope C s H fp pn) ifs tc) (he : ∀ C s H fp pn, PE (cE X N' scope C s H fp pn) elt te)
 (hs : ∀ x, foldedSetIterable iter X.env x = pure x) {pins : List (Addr × Obj)} {s : Shared} {σ : St} {H : Hp} {Q : VK} (I : Inv X pins σ H s) (h : tLc cap wi g tc te σ H Q)
 {use : Option (Value -> Sem Unit)} {QQ : Value -> Shared -> Prop}
 (post : ∀ (D C : Addr) (H' : Hp) (acc : List V) (s' : Shared), D ≠ C -> (∃ m, s'.heap.Ns C m) -> (∀ h', Heap.SameBut C s'.heap h' -> Inv X pins σ (upd H' D (.lst acc)) { s' with heap := h' }) -> kI X pins (upd H' D (.lst acc)) C -> Q (.ref D) (upd H' D (.lst acc)) -> compPost (model X.prog X.w) X.A X.xe use QQ (.ref D) C (.ok .next) s') :
 wpAny (model X.prog X.w) X.A (comprehension (.ListComp elt [⟨tg, iter, ifs, 0⟩] scope pos) scope X.env (firstIterPos [⟨tg, iter, ifs, 0⟩] pos) (newList []) false (firstIter [⟨tg, iter, ifs, 0⟩] X.env) use) QQ X.xe s := by
 refine wpAny_comprehension_free (e := .ListComp elt [⟨tg, iter, ifs, 0⟩] scope pos) (g := ⟨tg, iter, ifs, 0⟩) (gs := []) rfl hs (pN (S.cells I.ok)) S.kind S.names ?_
 refine thn (hi pins s σ H _ I h) fun v s1 h1 => thn h1 fun itv s2 h2 => ?_
 obtain ⟨it, fp, tn, J, H2, e, I2, T, st2, f2, W, ⟨m0, w0⟩, turn⟩ := h2
 subst e
 have fplt : ∀ b ∈ fp, b < s2.heap.objs.size := fun b hb => by
  obtain ⟨o, e, _⟩ := T.obj _ _ st2 b hb
  exact Heap.lt_size e
 refine wpAny_newObj_type (wpAny_newFunctionEnv S.nocell (fun y hy => by simp at hy) (fun h1' hns hsb => ?_) S.kind)
 dsimp only at hns hsb ⊢
 generalize hP : s2.heap.push { cls := .type "list", dict := none, data := .seq ([] : List Value).toArray } = P2 at hns hsb ⊢
 have hsz : P2.objs.size = s2.heap.objs.size + 1 := by rw [<- hP, Heap.size_push]
 have hDC : s2.heap.objs.size ≠ P2.objs.size := by rw [hsz]; exact Nat.ne_of_lt (Nat.lt_succ_self _)
 have hC : s2.heap.objs.size <= P2.objs.size := by rw [hsz]; exact Nat.le_succ _
 have keepP : ∀ b o, P2.get? b = some o -> b ≠ P2.objs.size -> h1'.get? b = some o := fun b o e hb => hsb.extBut b o hb (Heap.get?_push_of_some _ e)
 have old : ∀ b o, s2.heap.get? b = some o -> h1'.get? b = some o := fun b o e => keepP b o (by rw [<- hP]; exact Heap.get?_push_of_some _ e) (Nat.ne_of_lt (Nat.lt_of_lt_of_le (Heap.lt_size e) hC))
 have hD0 : h1'.get? s2.heap.objs.size = some { cls := .type "list", data := .seq #[] 0 } := keepP _ _ (by rw [<- hP]; exact Heap.get?_push_size _ rfl) hDC
 have I4 : Inv (cE X N' scope P2.objs.size s2 H2 fp pins) [] (oM cap σ) H2 { s2 with heap := h1', toks := s2.toks + ([] : List (Str × Value)).length } :=
  wZ S I2 f2 fplt hC (by simpa using hns) old
 have loop : ∀ s4 : Shared, s4 = { s2 with heap := h1', toks := s2.toks + ([] : List (Str × Value)).length } ->
  codeAny (model X.prog X.w) X.A (.compLoop (.ListComp elt [⟨tg, iter, ifs, 0⟩] scope pos) 0 (.ref it) (.ref s2.heap.objs.size) (compEnvC scope (cR X.env scope.names []) P2.objs.size X.env)) (compPost (model X.prog X.w) X.A X.xe use QQ (.ref s2.heap.objs.size) P2.objs.size) s4 := by
  rintro s4 rfl
  have hfrD : s2.heap.objs.size ∉ frs X.stack := fun hb => by
   obtain ⟨_, o, ho, _⟩ := I2.stack.mem hb
   exact absurd (Heap.lt_size ho) (Nat.lt_irrefl _)
  have cne : ∀ x c, (cR X.env scope.names []).lookup x = some c -> c < s2.heap.objs.size := fun x c e => by
   obtain ⟨v, q⟩ := I2.cell x c (S.sub I2.ok x c e)
   exact q.lt
  have stat : ∀ {Hx : Hp} {ob : Obj}, (∀ b ∈ fp, Hx b = none) -> ∀ b ∈ fp, kI (cE X N' scope P2.objs.size s2 H2 fp pins) [(s2.heap.objs.size, ob)] Hx b := fun {Hx ob} hn b hb => by
   refine ⟨hn b hb, Nat.ne_of_lt (Nat.lt_of_lt_of_le (fplt b hb) hC), I2.stkAll (f2 b hb).2.1 (f2 b hb).2.2.1, .inl hb, fun x c e => (f2 b hb).2.2.2.2.1 x c (S.sub I2.ok x c e), fun p hp => ?_⟩
   rcases List.mem_append.mp hp with z | z
   · exact (f2 b hb).2.2.2.2.2 p z
   · rw [List.mem_singleton.mp z]
     exact Nat.ne_of_gt (fplt b hb)
  refine MV (fun n s' => ∃ (i : Nat) (σ' : St) (H' : Hp) (acc : List V) (its : List Value) (nn : Nat), Inv (cE X N' scope P2.objs.size s2 H2 fp pins) [] σ' H' s' /\ tn i s'.heap /\ (∀ b ∈ fp, H' b = none) /\ H' s2.heap.objs.size = none /\
   s'.heap.get? s2.heap.objs.size = some { cls := .type "list", data := .seq its.toArray nn } /\ Vals acc its /\ acc.length <= sizeLine /\ W i n acc σ' H') ?_ m0
   ⟨0, oM cap σ, H2, [], [], 0, I4, T.keep _ _ _ st2 fun b _ o e => old b o e, fun b hb => (f2 b hb).1, I2.hok.fresh (Nat.le_refl _), hD0, .nil, Nat.zero_le _, w0⟩
  rintro n s5 ⟨i, σ', H', acc, its, nn, I5, t5, fr5, d5, g5, va, la, w5⟩
  have I5p : Inv (cE X N' scope P2.objs.size s2 H2 fp pins) [(s2.heap.objs.size, { cls := .type "list", data := .seq its.toArray nn })] σ' H' s5 := I5.pins_of fun p hp => by
   rw [List.mem_singleton.mp hp]
   exact ⟨g5, d5, hDC, hfrD, fun v z => by cases z⟩
  rcases turn i n acc σ' H' w5 with ⟨stop, q⟩ | ⟨go, lt, N, hN, step⟩
  · refine thn (T.done (cE X N' scope P2.objs.size s2 H2 fp pins) rfl rfl rfl hc i _ s5 σ' H' _ I5p (stat fr5) t5 stop) fun r s6 ⟨hr, I6⟩ => .inl ⟨hr, ?_⟩
    have d6 := (I6.pin (s2.heap.objs.size, { cls := .type "list", data := .seq its.toArray nn }) (by simp)).1
    have nC : H' P2.objs.size = none := I6.free
    refine post _ _ H' acc s6 hDC (let ⟨m, hn, _⟩ := I6.loc; ⟨m, hn⟩) (fun h' hs' => ?_) (I2.fpOk hC (by rw [aL hDC.symm]; exact nC)) (q _ d5)
    have up : ∀ b o, b ≠ P2.objs.size -> s6.heap.get? b = some o -> h'.get? b = some o := fun b o hb e => hs'.extBut b o hb e
    have ltC : ∀ b o, s2.heap.get? b = some o -> b ≠ P2.objs.size /\ b ≠ s2.heap.objs.size := fun b o e => ⟨Nat.ne_of_lt (Nat.lt_of_lt_of_le (Heap.lt_size e) hC), Nat.ne_of_lt (Heap.lt_size e)⟩
    have u6 : Un (frs X.stack) fp H2 H' s2.heap s6.heap := I6.base
    have u7 : Un (frs X.stack) fp H2 (upd H' s2.heap.objs.size (.lst acc)) s2.heap h' := by
     refine ⟨fun b o e n hb hx => up b o (ltC b o e).1 (u6.keep b o e n hb hx), fun b o e n hb hx => ?_, fun b o e n hx => ?_, fun b o e hx => ?_, fun b xs e => ?_, fun b o u e => ?_, fun b ps e => ?_⟩
     · obtain ⟨sl, q⟩ := u6.slot b o e n hb hx
       exact ⟨sl, up b _ (ltC b o e).1 q⟩
     · rw [aL (ltC b o e).2]
       exact u6.free b o e n hx
     · obtain ⟨o', q⟩ := u6.there b o e hx
       exact ⟨o', up b o' (ltC b o e).1 q⟩
     · have z := u6.tups b xs e
       rw [aL (aO z d5)]
       exact z
     · have z := u6.frzs b o u e
       rw [aL (aO z d5)]
       exact z
     · obtain ⟨more, z⟩ := u6.tbls b ps e
       exact ⟨more, by rw [aL (aO z d5)]; exact z⟩
    have ok7 : HOk X.prog X.w (upd H' s2.heap.objs.size (.lst acc)) h' := fun b u e => by
     by_cases hb : b = s2.heap.objs.size
     · subst hb
       rw [aR] at e
       cases e
       exact ⟨la, its, nn, va, up _ _ hDC d6⟩
     · rw [aL hb] at e
       refine (I6.hok b u e).stay (fun c v hc' z => up c v ?_ z) (fun c z => by rw [aL (aO z d5)]; exact z) fun c xs z => by rw [aL (aO z d5)]; exact z
       rcases hc' with rfl | z
       · exact aO e nC
       · exact aO z nC
    have os6 : s6.os = s2.os := I6.os
    have ba6 := I6.bare
    obtain ⟨hh, gg, dd, tt, oo⟩ := s6
    subst os6
    have z7 := I2.call (s := s2) (h' := h') (g' := gg) (d' := dd) (t' := tt) (ch := fp) u7 ok7 ba6 fun b hb => ⟨(f2 b hb).2.2.2.1, (f2 b hb).2.1, (f2 b hb).2.2.2.2.1, (f2 b hb).2.2.2.2.2⟩
    exact z7
  · refine thn (T.item (cE X N' scope P2.objs.size s2 H2 fp pins) rfl rfl rfl hc i _ s5 σ' H' _ I5p (stat fr5) t5 go) fun r s6 ⟨u, hr, h6⟩ => .inr ⟨u, hr, ?_⟩
    refine thn h6 fun _ s7 ⟨x, H7, I7, r7, y7, t7, fr7⟩ => ?_
    have I7' := I7.pinned (stat fr7) (T.obj _ _ t7)
    have back : ∀ {σx : St} {Hx : Hp} {sx : Shared}, Inv (cE X N' scope P2.objs.size s2 H2 fp pins) ([(s2.heap.objs.size, { cls := .type "list", data := .seq its.toArray nn })] ++ mE fp s7.heap) σx Hx sx ->
     (∀ b ∈ fp, ∀ o, s7.heap.get? b = some o -> sx.heap.get? b = some o) /\ (∀ b ∈ fp, Hx b = none) /\ sx.heap.get? s2.heap.objs.size = some { cls := .type "list", data := .seq its.toArray nn } /\ Hx s2.heap.objs.size = none := fun {σx Hx sx} Ix => by
     refine ⟨fun b hb o e => (Ix.pin (b, o) (List.mem_append_right _ (List.mem_append_right _ (eI hb e)))).1, fun b hb => ?_, ?_, ?_⟩
     · obtain ⟨o, e, _⟩ := T.obj _ _ t7 b hb
       exact (Ix.pin (b, o) (List.mem_append_right _ (List.mem_append_right _ (eI hb e)))).2.1
     · exact (Ix.pin (s2.heap.objs.size, _) (List.mem_append_right _ (List.mem_append_left _ (List.mem_singleton.mpr rfl)))).1
     · exact (Ix.pin (s2.heap.objs.size, { cls := .type "list", data := .seq its.toArray nn }) (List.mem_append_right _ (List.mem_append_left _ (List.mem_singleton.mpr rfl)))).2.1
    refine thn (hg _ _ _ _ _ _ s7 σ' H7 x u _ I7' r7 (step x H7 y7)) fun _ s8 ⟨σ8, H8, I8, q8⟩ => ?_
    refine thn (hif _ _ _ _ _ _ s8 σ8 H8 _ I8 q8) fun b s9 ⟨H9, I9, q9⟩ => ?_
    rcases q9 with ⟨rfl, q9⟩ | ⟨rfl, n9⟩
    · refine .inl ⟨rfl, thn (he _ _ _ _ _ _ s9 σ8 H9 _ I9 q9) fun uv s10 ⟨v, H10, I10, rv, n10⟩ => ?_⟩
      obtain ⟨m', hm, w10⟩ := hN _ _ _ n10
      obtain ⟨b1, b2, b3, b4⟩ := back I10
      refine wpAny_list_append_plain ⟨nn, b3⟩ (fun h' hp hs' => ?_) (by rw [List.size_toArray, <- va.length]; exact la)
      obtain ⟨n2, e2⟩ := hp
      have up : ∀ b o, b ≠ s2.heap.objs.size -> s10.heap.get? b = some o -> h'.get? b = some o := fun b o hb e => hs'.extBut b o hb e
      have I10' : Inv (cE X N' scope P2.objs.size s2 H2 fp pins) [] σ8 H10 s10 := I10.pins_of fun p hp => absurd hp (by simp)
      refine ⟨m', hm, i + 1, σ8, H10, acc ++ [v], its ++ [uv], n2, I10'.turned (t' := s10.toks) up b4 hDC (.inr (Nat.le_refl _)) (fun x c e => Nat.ne_of_lt (cne x c e)) (fun p hp => ?_), T.keep _ _ _ t7 fun b hb o e => up b o (Nat.ne_of_lt (fplt b hb)) (b1 b hb o e), b2, b4, ?_, va.append (.cons rv .nil), ?_, w10⟩
      · have hp' : p ∈ X.pn ++ pins := by
         rcases List.mem_append.mp hp with z | z
         · exact z
         · exact absurd z (by simp)
        exact Nat.ne_of_lt (Heap.lt_size (I2.pin p hp').1)
      · rw [e2]
        simp
      · rw [List.length_append, List.length_singleton]
        exact lt
    · obtain ⟨m', hm, w9⟩ := hN _ _ _ n9
      obtain ⟨b1, b2, b3, b4⟩ := back I9
      exact .inr ⟨rfl, m', hm, i + 1, σ8, H9, acc, its, nn, I9.pins_of fun p hp => absurd hp (by simp), T.keep _ _ _ t7 b1, b2, b4, b3, va, la, w9⟩
 exact codeAny_compStart_list (loop _ rfl) (T.self _ 0 _ _ _ (T.keep _ _ _ st2 fun b _ o e => old b o e) (loop _ rfl))
theorem XG {elt tg iter : Expr} {ifs : List Expr} {pos : Pos} {wi : TI} {g : TG} {tc : TT} {te : TE} (hc : X.calm = true) (S : LcSc X N' cap scope) (hi : PI X tg iter wi)
 (hg : ∀ C s H fp pn, PG (cE X N' scope C s H fp pn) tg g) (hif : ∀ C s H fp pn, uK (cE X N' scope C s H fp pn) ifs tc) (he : ∀ C s H fp pn, PE (cE X N' scope C s H fp pn) elt te)
 (hs : ∀ x, foldedSetIterable iter X.env x = pure x := by intro _; rfl) : PE X (.ListComp elt [⟨tg, iter, ifs, 0⟩] scope pos) (tLc cap wi g tc te) := by
 intro pins s σ H Q I h
 rw [eval_ListComp]
 refine HH (use := none) (Q := Q) hc S hi hg hif he hs I h fun D C H' acc s' hDC ⟨m, hn⟩ hI _ hq => ⟨m, hn, fun h' hs' => ?_⟩
 exact ⟨.ref D, _, hI h' hs', rfl, hq⟩
theorem wU {i : Nat} {x : Str} {elt tg iter : Expr} {ifs : List Expr} {pos pos' pos'' : Pos} {wi : TI} {g : TG} {tc : TT} {te : TE} (hN : X.N.Nodup) (hix : X.N[i]? = some x) (hc : X.calm = true) (S : LcSc X N' cap scope) (hi : PI X tg iter wi)
 (hg : ∀ C s H fp pn, PG (cE X N' scope C s H fp pn) tg g) (hif : ∀ C s H fp pn, uK (cE X N' scope C s H fp pn) ifs tc) (he : ∀ C s H fp pn, PE (cE X N' scope C s H fp pn) elt te)
 (hsw : swapsWith (.ListComp elt [⟨tg, iter, ifs, 0⟩] scope pos) (some (.Name x pos')) pos''.line X.env = pure true := by rfl) (hx : X.env.scope.names.lookup x = some .local := by rfl)
 (hs : ∀ x, foldedSetIterable iter X.env x = pure x := by intro _; rfl) : PS X (.Assign [.Name x pos'] (.ListComp elt [⟨tg, iter, ifs, 0⟩] scope pos) pos'') (II (tLc cap wi g tc te) (pZ i)) := by
 intro pins s σ H D I h
 rw [exec_Assign_Name_used _ _ _ _ hsw]
 refine wpAny_bind (wpAny_standAt (wpAny_bind ?_))
 show wpAny _ _ (comprehension (.ListComp elt [⟨tg, iter, ifs, 0⟩] scope pos) scope X.env _ (newList []) false (firstIter [⟨tg, iter, ifs, 0⟩] X.env) (some (assign (.Name x pos') X.env)) >>= fun _ => pure ()) _ _ s
 refine wpAny_bind (thn (HH (use := some (assign (.Name x pos') X.env)) (QQ := fun _ s' => ∃ σ' H', Inv X pins σ' H' s' /\ D.nx σ' H') (Q := fun v H1 => pZ i v σ H1 D.nx) hc S hi hg hif he hs I h fun E C H' acc s' hDC ⟨m, hn⟩ hI fC hq => ?_) fun _ s' hz => wpAny_pure (wpAny_pure hz))
 have I1 : Inv X pins σ (upd H' E (.lst acc)) s' := hI s'.heap (Heap.SameBut.refl ..)
 have I1 : Inv X pins σ (upd H' E (.lst acc)) s' := I1
 refine wpAny_assign_Name (mR (M := model X.prog X.w) (A := X.A) (E := X.xe) I1 hN hix (.inl hx) (v := .ref E) (u := .ref E) rfl (fun s2 I2 hsb => ?_) (.inr hx))
 obtain ⟨a, hs2, ha⟩ := hsb
 have hne : C ≠ a := by
  rcases ha with z | z
  · rw [z]; exact fC.2.1
  · exact fun w => fC.2.2.2.2.1 x a z w.symm
 refine ⟨m, hn.extBut hs2.extBut hne, fun h' hs' => ?_⟩
 exact ⟨_, _, I2.turned (t' := s2.toks) (fun b o hb e => hs'.extBut b o hb e) fC.1 fC.2.1 fC.2.2.2.1 fC.2.2.2.2.1 fC.2.2.2.2.2, hq⟩
end
end L2
end
section
set_option Elab.async false
set_option linter.all false
set_option maxRecDepth 100000
set_option maxHeartbeats 4000000
namespace L2
open PySem PySem.Spec PyProof.Rows
def RR : Key -> PyData
 | .inl i => .int i
 | .inr x => .str x
mutual
def Rep (K : PySem.W.Frag) (H : Hp) : PyData -> V -> Prop
 | .none, v => v = .non
 | .bool b, v => v = .bl b
 | .int i, v => v = .int i
 | .str x, v => v = .str x
 | .list xs, v => ∃ a vs, v = .ref a /\ SqL K H a vs /\ RepAll K H xs vs
 | .tuple xs, v => ∃ a vs, v = .ref a /\ SqT K H a vs /\ RepAll K H xs vs
 | .dict kvs, v => ∃ a ks, v = .ref a /\ H a = some (.dK ks) /\ RepKV K H kvs ks
def RepAll (K : PySem.W.Frag) (H : Hp) : List PyData -> List V -> Prop
 | [], vs => vs = []
 | d :: ds, vs => ∃ v r, vs = v :: r /\ Rep K H d v /\ RepAll K H ds r
def RepKV (K : PySem.W.Frag) (H : Hp) : List (PyData × PyData) -> List (Key × V) -> Prop
 | [], ks => ks = []
 | (k, d) :: kvs, ks => ∃ k' v r, ks = (k', v) :: r /\ k = RR k' /\ Rep K H d v /\ RepKV K H kvs r
end
theorem Same.seqT {K : PySem.W.Frag} {H H' : Hp} {a : Addr} {xs : List V} (e : Same H H') (h : SqT K H a xs) : SqT K H' a xs := by
 rcases h with h | h
 · refine .inl ?_
   rcases h with h | ⟨o, h⟩
   · exact .inl (e _ _ h)
   · exact .inr ⟨o, e _ _ h⟩
 · exact .inr h
mutual
theorem Rep.same {K : PySem.W.Frag} {H H' : Hp} (e : Same H H') : ∀ (d : PyData) (v : V), Rep K H d v -> Rep K H' d v
 | .none, v, h => h
 | .bool b, v, h => h
 | .int i, v, h => h
 | .str x, v, h => h
 | .list xs, v, h => by
  obtain ⟨a, vs, h1, h2, h3⟩ := h
  exact ⟨a, vs, h1, e.seq h2, RepAll.same e xs vs h3⟩
 | .tuple xs, v, h => by
  obtain ⟨a, vs, h1, h2, h3⟩ := h
  exact ⟨a, vs, h1, e.seqT h2, RepAll.same e xs vs h3⟩
 | .dict kvs, v, h => by
  obtain ⟨a, ks, h1, h2, h3⟩ := h
  exact ⟨a, ks, h1, e _ _ h2, RepKV.same e kvs ks h3⟩
theorem RepAll.same {K : PySem.W.Frag} {H H' : Hp} (e : Same H H') : ∀ (ds : List PyData) (vs : List V), RepAll K H ds vs -> RepAll K H' ds vs
 | [], vs, h => h
 | d :: ds, vs, h => by
  obtain ⟨v, r, h1, h2, h3⟩ := h
  exact ⟨v, r, h1, Rep.same e d v h2, RepAll.same e ds r h3⟩
theorem RepKV.same {K : PySem.W.Frag} {H H' : Hp} (e : Same H H') : ∀ (kvs : List (PyData × PyData)) (ks : List (Key × V)), RepKV K H kvs ks -> RepKV K H' kvs ks
 | [], ks, h => h
 | (k, d) :: kvs, ks, h => by
  obtain ⟨k', v, r, h1, h2, h3, h4⟩ := h
  exact ⟨k', v, r, h1, h2, Rep.same e d v h3, RepKV.same e kvs r h4⟩
end
theorem RepAll.length {K : PySem.W.Frag} {H : Hp} : ∀ {ds : List PyData} {vs : List V}, RepAll K H ds vs -> ds.length = vs.length
 | [], vs, h => by rw [show vs = [] from h]; rfl
 | d :: ds, vs, h => by
  obtain ⟨v, r, h1, _, h3⟩ := h
  rw [h1, List.length_cons, List.length_cons, RepAll.length h3]
theorem RepAll.get {K : PySem.W.Frag} {H : Hp} : ∀ {ds : List PyData} {vs : List V} {i : Nat} {v : V}, RepAll K H ds vs -> vs[i]? = some v -> ∃ d, ds[i]? = some d /\ Rep K H d v
 | [], vs, i, v, h, e => by rw [show vs = [] from h] at e; simp at e
 | d :: ds, vs, 0, v, h, e => by
  obtain ⟨w, r, h1, h2, h3⟩ := h
  rw [h1] at e
  simp at e
  subst e
  exact ⟨d, rfl, h2⟩
 | d :: ds, vs, i + 1, v, h, e => by
  obtain ⟨w, r, h1, h2, h3⟩ := h
  rw [h1] at e
  exact RepAll.get (i := i) h3 (by simpa using e)
theorem RepAll.app {K : PySem.W.Frag} {H : Hp} : ∀ {ds es : List PyData} {vs ws : List V}, RepAll K H ds vs -> RepAll K H es ws -> RepAll K H (ds ++ es) (vs ++ ws)
 | [], es, vs, ws, h, k => by rw [show vs = [] from h]; exact k
 | d :: ds, es, vs, ws, h, k => by
  obtain ⟨v, r, h1, h2, h3⟩ := h
  exact ⟨v, r ++ ws, by rw [h1]; rfl, h2, RepAll.app h3 k⟩
section
variable {X : Cx} {pins : List (Addr × Obj)} {σ : St} {H : Hp} {s : Shared}
theorem Inv.sysN (I : Inv X pins σ H s) : H sysModules = none := by
 obtain ⟨o, es, ep, h, _⟩ := I.mod.sysm
 exact (I.bs _ _ h).2
theorem Inv.sysL (I : Inv X pins σ H s) {a : Addr} {xs : List V} (h : SqL X.K H a xs) : sysModules ≠ a := by
 intro e
 subst e
 have hn := I.sysN
 rcases h with (h | ⟨o, h⟩) | ⟨o, its, n, hk, _, _, hd, _⟩
 · rw [hn] at h; cases h
 · rw [hn] at h; cases h
 · obtain ⟨o', es, ep, h', hd'⟩ := I.mod.sysm
   have := I.mod.kin _ _ hk
   rw [h'] at this
   cases this
   rw [hd] at hd'
   cases hd'
mutual
theorem Rep.reads' (I : Inv X pins σ H s) : ∀ (d : PyData) (v : V) (u : Value), Rep X.K H d v -> RelV v u -> ∃ as, Reads s.heap u d as /\ sysModules ∉ as
 | .none, v, u, r, q => by
  rw [show v = .non from r] at q
  rw [show u = Value.none from q]
  exact ⟨_, .none, by simp⟩
 | .bool b, v, u, r, q => by
  rw [show v = .bl b from r] at q
  rw [show u = Value.bool b from q]
  exact ⟨_, .bool b, by simp⟩
 | .int i, v, u, r, q => by
  rw [show v = .int i from r] at q
  obtain ⟨t, rfl⟩ := (show ∃ t, u = Value.int i t from q)
  exact ⟨_, .int i t, by simp⟩
 | .str x, v, u, r, q => by
  rw [show v = .str x from r] at q
  obtain ⟨t, rfl⟩ := (show ∃ t, u = Value.str x t from q)
  exact ⟨_, .str x t, by simp⟩
 | .list xs, v, u, r, q => by
  obtain ⟨a, vs, rfl, h2, h3⟩ := r
  rw [show u = Value.ref a from q]
  obtain ⟨its, hv, ⟨o, n, hg, hc, _, hd⟩, _⟩ := I.list h2
  obtain ⟨as, ha, hs⟩ := RepAll.reads' I xs vs its h3 hv
  exact ⟨_, .list hg hc hd (by simpa using ha), fun z => (List.mem_cons.mp z).elim (I.sysL h2) hs⟩
 | .tuple xs, v, u, r, q => by
  obtain ⟨a, vs, rfl, h2, h3⟩ := r
  rw [show u = Value.ref a from q]
  obtain ⟨its, hv, ⟨o, hg, hc, n, hd⟩, _⟩ := I.tuple h2
  obtain ⟨as, ha, hs⟩ := RepAll.reads' I xs vs its h3 hv
  exact ⟨_, .tuple hg hc hd (by simpa using ha), hs⟩
 | .dict kvs, v, u, r, q => by
  obtain ⟨a, ks, rfl, h2, h3⟩ := r
  rw [show u = Value.ref a from q]
  obtain ⟨_, hS, vs, hkv, o, es, ep, hg, hex, hd, _, hp, _⟩ := (show ObjOk X.prog X.w H s.heap a (.dK ks) from I.hok a _ h2)
  obtain ⟨as, bs, h4, h5, n1, n2⟩ := RepKV.reads' I kvs ks vs es.toList h3 hkv hp
  refine ⟨_, .dict hg hex.1 hd h4 h5, fun z => ?_⟩
  rcases List.mem_append.mp z with z | z
  · rcases List.mem_cons.mp z with z | z
    · rw [z] at hS; simp at hS
    · exact n1 z
  · exact n2 z
theorem RepAll.reads' (I : Inv X pins σ H s) : ∀ (ds : List PyData) (vs : List V) (us : List Value), RepAll X.K H ds vs -> Vals vs us -> ∃ as, ReadsAll s.heap us ds as /\ sysModules ∉ as
 | [], vs, us, r, q => by
  rw [show vs = [] from r] at q
  cases q
  exact ⟨_, .nil, by simp⟩
 | d :: ds, vs, us, r, q => by
  obtain ⟨v, t, rfl, h2, h3⟩ := r
  cases q with
  | cons q1 q2 =>
   obtain ⟨as, ha, n1⟩ := Rep.reads' I d v _ h2 q1
   obtain ⟨bs, hb, n2⟩ := RepAll.reads' I ds t _ h3 q2
   exact ⟨_, .cons ha hb, fun z => (List.mem_append.mp z).elim n1 n2⟩
theorem RepKV.reads' (I : Inv X pins σ H s) : ∀ (kvs : List (PyData × PyData)) (ks : List (Key × V)) (vs : List (Key × Value)) (es : List DictEntry), RepKV X.K H kvs ks -> KV ks vs -> Pairs (bV X.prog X.w) es vs ->
 ∃ as bs, ReadsAll s.heap (es.map (·.key)) (kvs.map (·.1)) as /\ ReadsAll s.heap (es.map (·.val)) (kvs.map (·.2)) bs /\ sysModules ∉ as /\ sysModules ∉ bs
 | [], ks, vs, es, r, q, p => by
  rw [show ks = [] from r] at q
  cases q
  cases p
  exact ⟨_, _, .nil, .nil, by simp, by simp⟩
 | (k, d) :: kvs, ks, vs, es, r, q, p => by
  obtain ⟨k', v, t, rfl, h1, h2, h3⟩ := r
  cases q with
  | @cons _ kv _ vs' q1 q2 =>
   cases p with
   | @cons e _ es' _ p1 p2 p3 =>
    obtain ⟨as, bs, ha, hb, n1, n2⟩ := RepKV.reads' I kvs t _ _ h3 q2 p3
    obtain ⟨cs, hc, n3⟩ := Rep.reads' I d v _ h2 q1.2
    have hkey : Reads s.heap e.key k [] := by
     rw [h1]
     have p1' : nV kv.1 e.key = true := p1
     rw [<- show k' = kv.1 from q1.1] at p1'
     rcases bN p1' with ⟨i, t', rfl, he⟩ | ⟨x, t', rfl, he⟩
     · rw [he]; exact .int i t'
     · rw [he]; exact .str x t'
    refine ⟨_, _, .cons hkey ha, .cons (show Reads s.heap e.val d cs by rw [p2]; exact hc) hb, by simpa using n1, fun z => (List.mem_append.mp z).elim n3 n2⟩
end
theorem Rep.reads (I : Inv X pins σ H s) (d : PyData) (v : V) (u : Value) (r : Rep X.K H d v) (q : RelV v u) : ∃ as, Reads s.heap u d as := let ⟨as, h, _⟩ := Rep.reads' I d v u r q; ⟨as, h⟩
theorem RepAll.reads (I : Inv X pins σ H s) (ds : List PyData) (vs : List V) (us : List Value) (r : RepAll X.K H ds vs) (q : Vals vs us) : ∃ as, ReadsAll s.heap us ds as := let ⟨as, h, _⟩ := RepAll.reads' I ds vs us r q; ⟨as, h⟩
end
section
variable {X : Cx}
def HN (K : PySem.W.Frag) (neg : Bool) : R2 := fun x y H Q => ∃ dx dy, Rep K H dx x /\ Rep K H dy y /\ SeqAt.shaped dx = true /\ SeqAt.shaped dy = true /\ Q (.bl (if neg then !PyData.eqv dx dy else PyData.eqv dx dy)) H
theorem UE (hu : X.A.units + 64 < cLine) : OpR X (compareOp .Eq) (HN X.K false) := by
 intro pins s σ H x y v u Q I rx ry h
 obtain ⟨dx, dy, hx, hy, sx, sy, q⟩ := h
 obtain ⟨as, ha⟩ := Rep.reads I dx x v hx rx
 obtain ⟨bs, hb⟩ := Rep.reads I dy y u hy ry
 exact eq_dataH ha hb sx sy hu ⟨.bl _, H, I, rfl, q⟩
theorem RD (hu : X.A.units + 64 < cLine) : OpR X (compareOp .NotEq) (HN X.K true) := by
 intro pins s σ H x y v u Q I rx ry h
 obtain ⟨dx, dy, hx, hy, sx, sy, q⟩ := h
 obtain ⟨as, ha⟩ := Rep.reads I dx x v hx rx
 obtain ⟨bs, hb⟩ := Rep.reads I dy y u hy ry
 exact ne_dataH ha hb sx sy hu ⟨.bl _, H, I, rfl, q⟩
open Classical in
noncomputable def rB (h : Heap) (dv : PyData) (u : Value) : Bool := if ∃ d as, Reads h u d as /\ PyData.eqv d dv = true then true else false
theorem KO {h : Heap} {dv d : PyData} {u : Value} {as : List Addr} (r : Reads h u d as) (hc : d.canLay0 = true) : rB h dv u = PyData.eqv d dv := by
 unfold rB
 by_cases e : PyData.eqv d dv = true
 · rw [if_pos ⟨d, as, r, e⟩, e]
 · rw [if_neg, Bool.eq_false_iff.mpr e]
   rintro ⟨d', as', r', e'⟩
   have := SeqAt.Reads.unique d d' u as as' hc r r'
   subst this
   exact e e'
theorem qO {A : Around} {s : Shared} {v : Value} {dv : PyData} {av : List Addr} (hv : Reads s.heap v dv av) (sv : SeqAt.shaped dv = true) (hu : A.units + 64 < cLine) :
 ∀ (us : List Value) (ds : List PyData) (as : List Addr), ReadsAll s.heap us ds as -> ds.all SeqAt.shaped = true -> (∀ y ∈ us, SeqAt.EqAt A s y v (rB s.heap dv y)) /\ us.any (rB s.heap dv) = ds.any fun d => PyData.eqv d dv
 | [], ds, as, r, _ => by
  cases r
  exact ⟨fun y hy => absurd hy (by simp), rfl⟩
 | y :: us, ds, as, r, hs => by
  cases r with
  | @cons _ _ d ds' as1 bs1 r1 r2 =>
   rw [List.all_cons, Bool.and_eq_true] at hs
   obtain ⟨h1, h2⟩ := qO hv sv hu us _ _ r2 hs.2
   have e := KO (dv := dv) r1 (SeqAt.canLay_of_shaped hs.1)
   have hy : SeqAt.EqAt A s y v (PyData.eqv d dv) := SeqAt.eqAt_reads d dv A s y v _ _ r1 hv (SeqAt.canLay_of_shaped hs.1) (SeqAt.canLay_of_shaped sv) (SeqAt.room_of_shaped hs.1 hu)
   refine ⟨fun z hz => ?_, by rw [List.any_cons, List.any_cons, e, h2]⟩
   rcases List.mem_cons.mp hz with q | q
   · rw [q, e]; exact hy
   · exact h1 z q
def VE (K : PySem.W.Frag) (neg : Bool) : R2 := fun x y H Q => ∃ dx ds p vs, Rep K H dx x /\ y = .ref p /\ (SqL K H p vs \/ SqT K H p vs) /\ RepAll K H ds vs /\ SeqAt.shaped dx = true /\ ds.all SeqAt.shaped = true /\
 Q (.bl (if neg then !ds.any fun d => PyData.eqv d dx else ds.any fun d => PyData.eqv d dx)) H
theorem CS (hu : X.A.in1.units + 64 < cLine) : OpR X (compareOp .NotIn) (VE X.K true) := by
 intro pins s σ H x y v u Q I rx ry h
 obtain ⟨dx, ds, p, vs, hx, rfl, hp, hds, sx, sds, q⟩ := h
 cases ry
 obtain ⟨as, ha⟩ := Rep.reads I dx x v hx rx
 rcases hp with hp | hp
 · obtain ⟨its, r, pl, hz⟩ := I.list hp
   obtain ⟨bs, hb⟩ := RepAll.reads I ds vs its hds r
   obtain ⟨h1, h2⟩ := qO (A := X.A.in1) ha sx hu its ds bs hb sds
   refine SeqAt.notIn_listAt (rB s.heap dx) pl.isList (fun w hw => h1 w (by simpa using hw)) ⟨.bl _, H, I, rfl, ?_⟩
   rw [show its.toArray.any (rB s.heap dx) = its.any (rB s.heap dx) by simp, h2]
   exact q
 · obtain ⟨its, r, pl, hz⟩ := I.tuple hp
   obtain ⟨bs, hb⟩ := RepAll.reads I ds vs its hds r
   obtain ⟨h1, h2⟩ := qO (A := X.A.in1) ha sx hu its ds bs hb sds
   refine SeqAt.notIn_tupleAt (rB s.heap dx) pl (fun w hw => h1 w (by simpa using hw)) ⟨.bl _, H, I, rfl, ?_⟩
   rw [show its.toArray.any (rB s.heap dx) = its.any (rB s.heap dx) by simp, h2]
   exact q
theorem Vals.types : ∀ {Ts : List String} {its : List Value}, Vals (Ts.map V.ty) its -> its = Ts.map Value.type
 | [], _, h => by cases h; rfl
 | t :: Ts, its, h => by
  cases h with
  | cons r1 r2 => rw [show _ = Value.type t from r1, Vals.types r2]; rfl
def nZ : Nat := 2 ^ 8000
def Wide (i : Int) : Prop := i.natAbs < nZ
theorem vO {j : Int} (h : Wide j) : j.natAbs.log2 < 9000 := by
 by_cases h0 : j.natAbs = 0
 · rw [h0]; decide +kernel
 · exact Nat.lt_trans ((Nat.log2_lt h0).mpr h) (by decide)
def XB (i j : Int) : Prop := Wide i /\ Wide j
theorem rF {j : Int} (h : Wide j) : Builtin.Int.intBits j <= 2 ^ 20 := by
 unfold Builtin.Int.intBits
 by_cases h0 : (j == 0) = true
 · rw [if_pos h0]; exact Nat.zero_le _
 · rw [if_neg h0]
   have := vO h
   omega
end
end L2
end
section
set_option Elab.async false
set_option linter.all false
set_option maxRecDepth 100000
set_option maxHeartbeats 4000000
namespace L2
open PySem PySem.Spec PyProof.Rows
structure Callee (P : Program) (w : World) (K : PySem.W.Frag) (mg : Str -> Option Value) (base : Heap) (k : Nat) (x : Str) (ps : List Str) (sp : Sp) (q : Bool := true) : Prop where
 ex : ∃ f fd, kJ P w K mg base CX0 k f fd ps sp q /\ mg x = some (.ref f) /\ PySem.W.keepIn K (.ref f) = true /\ Binds K fd ps []
structure Def (K : PySem.W.Frag) (mg : Str -> Option Value) (x : Str) (st : Stmt) : Prop where
 ex : ∃ f fd, Fun K x x st f fd /\ mg x = some (.ref f)
section
variable {P : Program} {w : World} {K : PySem.W.Frag} {mg : Str -> Option Value} {base : Heap} {X : Cx}
theorem Def.ok {x : Str} {st : Stmt} {N ps : List Str} {k : Nat} {sp : Sp} {q : Bool} (D : Def K mg x st) (S : aT N ps (aE st))
 (hb : ∀ (kV doc pm : Value) (an : Option Addr) (cdv ct : Value) (us : List Value), us.length = ps.length -> bindArgs (PySem.W.fnOf x x (dD st) (bJ st) (aE st) .none kV doc pm an cdv ct) ⟨us, []⟩ = pure (ps.zip us))
 (len : ∀ vs H Q E, sp vs H Q E -> vs.length = ps.length)
 (hbody : ∀ (f : Addr) (cdv : Value) (A : Around) (outer : List Env) (s : Shared) (H : Hp) (vs : List V) (Q : VK) (E : XK), Room k (A.deeper (envOfC x (aE st) s.heap.objs.size f cdv)) q -> sp vs H Q E ->
  ∃ t, PSs (lW CX0 P w K mg base N x (aE st) f cdv A outer s H E q).nox (bJ st) t /\ t { nx := fun _ H' => Q .non H', rt := Q } (start N vs) H) : Callee P w K mg base (k + 1) x ps sp q := by
 obtain ⟨f, fd, F, m⟩ := D.ex
 exact ⟨f, fd, F.ok S len fun cdv A outer s H vs Q E hr h => hbody f cdv A outer s H vs Q E hr h, m, F.kp, F.binds hb⟩
theorem def_mk {x : Str} {st : Stmt} {h : Heap} {f : Addr} {oc : Value} {od an : Option Addr} {osl : Array (Option Value)} {kV doc pm cdv ct : Value} (X : K.In h) (G : h.Ns mainGlobals mg) (a : PySem.W.nsIn K mainGlobals x = some (some (.ref f)))
 (l : K.lookup f = some ⟨oc, od, .func (PySem.W.fnOf x x (dD st) (bJ st) (aE st) .none kV doc pm an cdv ct), osl⟩) (c : PySem.W.codeIn K cdv x = true) (k : PySem.W.keepIn K (.ref f) = true) : Def K mg x st :=
 ⟨f, _, EZ l c k, PySem.W.mg_of X G a⟩
theorem SB {k : Nat} {x : Str} {ps : List Str} {sp : Sp} {p pos : Pos} {e : Expr} {es : List Expr} {t : TA} {q : Bool} (C : Callee X.prog X.w X.K X.mg X.base k x ps sp q) (hr : Room k X.A q) (ha : PA X (e :: es) t) (hg : Gl X x := by rfl)
 (hdb : (x == ("__debug__" : Str)) = false := by decide) (he : starEach (e :: es) X.env = (false, eval e X.env) :: starEach es X.env := by rfl) (hpl : (backTo pos (starEach es X.env)).any (·.1) = false := by rfl) :
 PE X (.Call (.Name x p) (e :: es) [] pos) (HW sp [] E0 t) := by
 obtain ⟨f, fd, F, m, kp, b⟩ := C.ex
 exact OL F hr hg m kp b .nil PK ha hdb he hpl
theorem Room.units1 {k : Nat} {A : Around} (r : Room k A) : A.in1.units + 64 < cLine := by have := r.un; show A.units + 1 + 64 < _; omega
def Free (mg : Str -> Option Value) (xs : List Str) : Prop := ∀ x ∈ xs, mg x = none
theorem Free.of {xs : List Str} (h : Free mg xs) (x : Str) (hx : x ∈ xs := by decide +kernel) : mg x = none := h x hx
theorem IY : Free mg [] := fun _ h => absurd h (by simp)
theorem cM {x : Str} {xs : List Str} (h : mg x = none) (hr : Free mg xs) : Free mg (x :: xs) := fun y hy => (List.mem_cons.mp hy).elim (fun e => e ▸ h) (hr y)
def CMulA (i j : Int) : Prop := CMul i j \/ XB i j
theorem CMulA.ok {i j : Int} (h : CMulA i j) : IntMulOk i j := by
 rcases h with h | h
 · exact h.ok
 · exact IntMulOk.of_bits (rF h.1) (rF h.2)
theorem OE : OpR X (binaryOp .Mult) (rI CMulA fun i j => .int (i * j)) := opI fun _ _ _ _ _ _ _ hc q => mul_int q hc.ok
def QK (_ j : Int) : Prop := 0 < j /\ Wide j
theorem IL : OpR X (binaryOp .FloorDiv) (rI QK fun i j => .int (i / j)) := opI fun i j _ _ _ _ _ hc q => by
 refine floordiv_int (Int.ne_of_gt hc.1) ?_ (.inl (PyProof.noPylong_of_log2 (vO hc.2)))
 rw [Int.fdiv_eq_ediv_of_nonneg _ (Int.le_of_lt hc.1)]
 exact q
end
end L2
namespace L2
open PySem PySem.Spec PyProof.Rows
def PQ (sc0 : Scope) (N N' : List Str) (cap : List (Option Nat)) (scope : Scope) : Bool :=
 scope.names.all (fun y => y.2 != .cell) && (scope.kind == .function) && scope.names.all (fun y => y.2 != .local || scope.names.lookup y.1 == some .local) &&
 scope.names.all (fun y => y.2 != .free || (sc0.names.lookup y.1 == some .cell || sc0.names.lookup y.1 == some .free)) && (cap.length == N'.length) &&
 (List.range cap.length).all fun i => match cap[i]? with
  | some (some j) => (match N'[i]?, N[j]? with
   | some x, some y => x == y && scope.names.lookup x == some .free
   | _, _ => false)
  | _ => true
theorem eK {X : Cx} {sc0 scope : Scope} {N N' : List Str} {cap : List (Option Nat)} (h1 : X.env.scope = sc0) (h2 : X.N = N) (h : PQ sc0 N N' cap scope = true) : LcSc X N' cap scope := by
 unfold PQ at h
 simp only [Bool.and_eq_true, List.all_eq_true, beq_iff_eq, bne_iff_ne, ne_eq, Bool.or_eq_true, List.mem_range] at h
 obtain ⟨⟨⟨⟨⟨a, b⟩, c⟩, d⟩, e⟩, f⟩ := h
 refine ⟨a, b, fun y hy hk => ?_, fun y hy hk => ?_, e, fun i j hij => ?_⟩
 · rcases c y hy with z | z
   · exact absurd hk z
   · exact z
 · show X.env.scope.names.lookup y.1 = _ \/ X.env.scope.names.lookup y.1 = _
   rw [h1]
   rcases d y hy with z | z
   · exact absurd hk z
   · exact z
 · have hi : i < cap.length := (List.getElem?_eq_some_iff.mp hij).1
   have g := f i hi
   rw [hij] at g
   dsimp only at g
   rw [h2]
   split at g
   · rename_i x y ex ey
     rw [Bool.and_eq_true, beq_iff_eq, beq_iff_eq] at g
     exact ⟨x, ex, by rw [ey, g.1], g.2⟩
   · cases g
end L2
end
section
set_option Elab.async false
set_option linter.all false
set_option maxRecDepth 100000
set_option maxHeartbeats 4000000
namespace L2
open PySem PySem.Spec PyProof.Rows
def tyName : PyData -> String
 | .none => "NoneType"
 | .bool _ => "bool"
 | .int _ => "int"
 | .str _ => "str"
 | .list _ => "list"
 | .tuple _ => "tuple"
 | .dict _ => "dict"
def asked : List String := ["int", "bool", "str", "list", "tuple", "dict"]
def isT (T S : String) : Bool := T == S || (T == "int" && S == "bool")
def qM (T : String) (d : PyData) : Bool := isT T (tyName d)
def YU (S T : String) : Option Bool := if (Value.type S == Value.type T) = true then some true else if PySem.W.kitMeta T = true then (PySem.fastBuiltinMro S).map (·.contains (Value.type T)) else none
theorem HP : (["NoneType", "bool", "int", "str", "list", "tuple", "dict"].all fun S => asked.all fun T => YU S T == some (isT T S)) = true := by decide +kernel
theorem HX {K : PySem.W.Frag} {T : String} {d : PyData} (h : T ∈ asked) : PySem.W.kitOne K (.type (tyName d)) (.type T) = some (qM T d) := by
 have e : PySem.W.kitOne K (.type (tyName d)) (.type T) = YU (tyName d) T := rfl
 rw [e]
 have hk := HP
 rw [List.all_eq_true] at hk
 have h1 := hk (tyName d) (by cases d <;> simp [tyName])
 rw [List.all_eq_true] at h1
 exact eq_of_beq (h1 T h)
theorem BO {K : PySem.W.Frag} {d : PyData} : ∀ {Ts : List String}, (∀ T ∈ Ts, T ∈ asked) -> PySem.W.kitAny K (.type (tyName d)) (Ts.map Value.type) = some (Ts.any fun T => qM T d)
 | [], _ => rfl
 | T :: Ts, h => by
  rw [List.map_cons]
  unfold PySem.W.kitAny
  rw [HX (h T List.mem_cons_self), List.any_cons]
  cases qM T d with
  | true => rfl
  | false => rw [Bool.false_or]; exact BO fun U hU => h U (List.mem_cons_of_mem _ hU)
section
variable {X : Cx}
theorem zV {pins : List (Addr × Obj)} {σ : St} {H : Hp} {s : Shared} (I : Inv X pins σ H s) : ∀ {d : PyData} {v : V} {u : Value}, Rep X.K H d v -> RelV v u -> ∃ Hc : Heap -> Prop, PySem.W.KitX X.K u (.type (tyName d)) Hc /\ Hc s.heap /\ u ≠ .builtin "__main__.__loader__#opaque"
 | .none, v, u, h, r => by
  rw [show v = .non from h] at r
  cases (show u = Value.none from r)
  exact ⟨_, PySem.W.kitx_none, True.intro, fun z => nomatch z⟩
 | .bool b, v, u, h, r => by
  rw [show v = .bl b from h] at r
  cases (show u = Value.bool b from r)
  exact ⟨_, PySem.W.kitx_bool, True.intro, fun z => nomatch z⟩
 | .int i, v, u, h, r => by
  rw [show v = .int i from h] at r
  obtain ⟨t, q⟩ := (show ∃ t, u = Value.int i t from r)
  cases q
  exact ⟨_, PySem.W.kitx_int, True.intro, fun z => nomatch z⟩
 | .str x, v, u, h, r => by
  rw [show v = .str x from h] at r
  obtain ⟨t, q⟩ := (show ∃ t, u = Value.str x t from r)
  cases q
  exact ⟨_, PySem.W.kitx_str, True.intro, fun z => nomatch z⟩
 | .list xs, v, u, h, r => by
  obtain ⟨a, vs, rfl, h2, _⟩ := h
  cases (show u = Value.ref a from r)
  obtain ⟨its, hv, ⟨o, n, hg, hc, _, hd⟩, _⟩ := I.list h2
  exact ⟨_, PySem.W.kitx_list, ⟨o, hg, hc⟩, fun z => nomatch z⟩
 | .tuple xs, v, u, h, r => by
  obtain ⟨a, vs, rfl, h2, _⟩ := h
  cases (show u = Value.ref a from r)
  obtain ⟨its, hv, ⟨o, hg, hc, n, hd⟩, _⟩ := I.tuple h2
  exact ⟨_, PySem.W.kitx_tuple, ⟨o, hg, hc⟩, fun z => nomatch z⟩
 | .dict kvs, v, u, h, r => by
  obtain ⟨a, ks, rfl, h2, _⟩ := h
  cases (show u = Value.ref a from r)
  obtain ⟨_, _, vs, _, o, es, ep, h1, hx, _⟩ := (show ObjOk X.prog X.w H s.heap a (.dK ks) from I.hok a _ h2)
  exact ⟨_, PySem.W.kitx_dict, ⟨o, h1, hx.1⟩, fun z => nomatch z⟩
def RN (K : PySem.W.Frag) : List V -> Hp -> VK -> Prop := fun xs H Q => ∃ x T d, xs = [x, .ty T] /\ T ∈ asked /\ Rep K H d x /\ Q (.bl (qM T d)) H
theorem CC : fJ X (.builtin "isinstance") (RN X.K) := by
 intro pins s σ H xs us Q I r h
 obtain ⟨x, T, d, rfl, hT, hd, q⟩ := h
 obtain ⟨u, u', rfl, ru, ru'⟩ := vals2 r
 cases (show u' = Value.type T from ru')
 obtain ⟨Hc, Z, hh, hne⟩ := zV I hd ru
 exact PySem.W.kia_one Z I.kIn hh (HX hT) hne fun tk => ⟨.bl _, H, I.tok tk, rfl, q⟩
def GY (K : PySem.W.Frag) : List V -> Hp -> VK -> Prop := fun xs H Q => ∃ (x : V) (p : Addr) (Ts : List String) (d : PyData), xs = [x, .ref p] /\ H p = some (.tup (Ts.map V.ty)) /\ (∀ T ∈ Ts, T ∈ asked) /\ Rep K H d x /\ Q (.bl (Ts.any fun T => qM T d)) H
theorem yF : fJ X (.builtin "isinstance") (GY X.K) := by
 intro pins s σ H xs us Q I r h
 obtain ⟨x, p, Ts, d, rfl, hp, hT, hd, q⟩ := h
 obtain ⟨u, u', rfl, ru, ru'⟩ := vals2 r
 cases (show u' = Value.ref p from ru')
 obtain ⟨_, its, rv, o, hg, hcl, n, hd'⟩ := (show ObjOk X.prog X.w H s.heap p (.tup (Ts.map V.ty)) from I.hok p _ hp)
 have hits : its = Ts.map Value.type := Vals.types rv
 subst hits
 obtain ⟨oc, od, odt, osl⟩ := o
 dsimp only at hcl hd'
 subst hcl hd'
 obtain ⟨Hc, Z, hh, hne⟩ := zV I hd ru
 exact PySem.W.kia_tup Z I.kIn hh hg (BO hT) hne fun tk => ⟨.bl _, H, I.tok tk, rfl, q⟩
end
theorem Same.upd {H : Hp} {p : Addr} {o : HO} (h : H p = none) : Same H (upd H p o) := fun b u e => by rw [aL (aO e h)]; exact e
def bI : PyData -> Option (List PyData)
 | .list xs => some xs
 | .tuple xs => some xs
 | _ => none
theorem eZ {K : PySem.W.Frag} {H : Hp} : ∀ {d : PyData} {v : V} {ds : List PyData}, Rep K H d v -> bI d = some ds -> ∃ a vs, v = .ref a /\ (SqL K H a vs \/ SqT K H a vs) /\ RepAll K H ds vs
 | .list xs, v, ds, h, e => by
  obtain ⟨a, vs, h1, h2, h3⟩ := h
  cases e
  exact ⟨a, vs, h1, .inl h2, h3⟩
 | .tuple xs, v, ds, h, e => by
  obtain ⟨a, vs, h1, h2, h3⟩ := h
  cases e
  exact ⟨a, vs, h1, .inr h2, h3⟩
 | .none, _, _, _, e => by cases e
 | .bool _, _, _, _, e => by cases e
 | .int _, _, _, _, e => by cases e
 | .str _, _, _, _, e => by cases e
 | .dict _, _, _, _, e => by cases e
section
variable {X : Cx} {tg : Expr}
def OI (K : PySem.W.Frag) (tl : TE) : TI := fun σ H R => tl σ H fun x H1 => ∃ a, x = .ref a /\ ((∃ xs, SqL K H1 a xs /\ R (Itl K a) H1) \/ (∃ xs, SqT K H1 a xs /\ R (Itt K a) H1))
theorem UU {l : Expr} {tl : TE} (hl : PE X l tl) : PI X tg l (OI X.K tl) := by
 intro pins s σ H R I h
 refine thn (hl pins s σ H _ I h) fun v s1 hz => ?_
 obtain ⟨x, H1, I1, r1, a, e, q1⟩ := hz
 subst e
 cases r1
 have fp : ∀ b ∈ [s1.heap.objs.size], kI X pins H1 b := fun b hb => by
  have e : b = s1.heap.objs.size := List.mem_singleton.mp hb
  subst e
  exact I1.fpOk (Nat.le_refl _) (I1.hok.fresh (Nat.le_refl _))
 rcases q1 with ⟨xs, hq, q⟩ | ⟨xs, hq, q⟩
 · obtain ⟨its, rv, p, hz⟩ := I1.list hq
   refine wpAny_pyIter_list p.isList ?_
   exact ⟨s1.heap.objs.size, [s1.heap.objs.size], _, _, H1, rfl, I1.kept (t' := s1.toks) fun b o e => Heap.get?_push_of_some _ e, BU a _, ⟨_, Heap.get?_push_size _ rfl, rfl, rfl⟩, fp, q⟩
 · obtain ⟨its, rv, p, hz⟩ := I1.tuple hq
   refine wpAny_pyIter_tuple (show s1.heap.IsTuple a its.toArray from p) ?_
   exact ⟨s1.heap.objs.size, [s1.heap.objs.size], _, _, H1, rfl, I1.kept (t' := s1.toks) fun b o e => Heap.get?_push_of_some _ e, yX a _, ⟨_, Heap.get?_push_size _ rfl, rfl, rfl⟩, fp, q⟩
end
end L2
end
section
set_option Elab.async false
set_option linter.all false
set_option maxRecDepth 100000
set_option maxHeartbeats 4000000
namespace L2
open PySem PySem.Spec PyProof.Rows
inductive CD where
 | d (x : PyData)
 | c (n : Nat)
inductive Cell where
 | lst (xs : List CD)
 | dk (kvs : List (Key × CD))
 | dt (kvs : List (List Key × CD))
 | obj (nm : Str) (fs : List (Str × CD))
 | exc (fr : Bool) (nm : Str) (fs : List (Str × CD))
 | dead
structure Wd where
 F : Hp
 α : Nat -> Addr
 n : Nat
structure Wd.Ext (W W' : Wd) : Prop where
 ff : Same W.F W'.F
 ln : W.n <= W'.n
 al : ∀ i, i < W.n -> W'.α i = W.α i
theorem Wd.Ext.refl (W : Wd) : W.Ext W := ⟨Same.refl _, Nat.le_refl _, fun _ _ => rfl⟩
theorem Wd.Ext.trans {W W1 W2 : Wd} (a : W.Ext W1) (b : W1.Ext W2) : W.Ext W2 := ⟨a.ff.trans b.ff, Nat.le_trans a.ln b.ln, fun i h => (b.al i (Nat.lt_of_lt_of_le h a.ln)).trans (a.al i h)⟩
def RepV (K : PySem.W.Frag) (W : Wd) : CD -> V -> Prop
 | .d x, v => Rep K W.F x v
 | .c i, v => i < W.n /\ v = .ref (W.α i)
abbrev RepVs (K : PySem.W.Frag) (W : Wd) : List CD -> List V -> Prop := Paired (RepV K W)
def yB (K : PySem.W.Frag) (W : Wd) : Option CD -> Option V -> Prop
 | none, none => True
 | some x, some v => RepV K W x v
 | _, _ => False
abbrev RepS (K : PySem.W.Frag) (W : Wd) : List (Option CD) -> St -> Prop := Paired (yB K W)
def dU (K : PySem.W.Frag) (nm : Str) : Addr := match PySem.W.nsIn K mainGlobals nm with
 | some (some (.ref C)) => C
 | _ => 0
def aAf (a : Addr) (c : Value) (dx : Option Addr) (fr : Bool) (h : Heap) : Prop := ∃ o vs, h.get? a = some o /\ o.cls = c /\ o.dict = dx /\ o.data = .fields vs /\ (fr = true -> 1 < vs.size /\ vs[1]? = some .none)
def RepX (K : PySem.W.Frag) (W : Wd) (dx : Option Addr) (fs : List (Str × CD)) : Prop := match dx with
 | none => fs = []
 | some d => fs ≠ [] /\ ∃ us, W.F d = some (.xd us) /\ Paired (fun p q => p.1 = q.1 /\ RepV K W p.2 q.2) fs us
def RepC (K : PySem.W.Frag) (W : Wd) (a : Addr) : Cell -> HO -> Prop
 | .lst xs, .lst vs => RepVs K W xs vs
 | .dk kvs, .dK us => Paired (fun p q => p.1 = q.1 /\ RepV K W p.2 q.2) kvs us
 | .dt kvs, .dT us => Paired (fun p q => p.1 = q.1 /\ RepV K W p.2 q.2) kvs us
 | .obj nm fs, .ins C _ us => C = dU K nm /\ Paired (fun p q => p.1 = q.1 /\ RepV K W p.2 q.2) fs us
 | .exc fr nm fs, .ext φ => ∃ dx, φ = aAf a (.ref (dU K nm)) dx fr /\ RepX K W dx fs
 | _, _ => False
structure Good (K : PySem.W.Frag) (W : Wd) (M : List Cell) (H : Hp) : Prop where
 fh : Same W.F H
 n : W.n = M.length
 cs : ∀ i c, M[i]? = some c -> c ≠ .dead -> W.F (W.α i) = none /\ ∃ o, H (W.α i) = some o /\ RepC K W (W.α i) c o
 inj : ∀ i j c c', M[i]? = some c -> M[j]? = some c' -> c ≠ .dead -> c' ≠ .dead -> W.α i = W.α j -> i = j
section
variable {K : PySem.W.Frag} {W W' : Wd} {M M' : List Cell} {H H' : Hp}
theorem RepV.up {x : CD} {v : V} (h : RepV K W x v) (e : W.Ext W') : RepV K W' x v := by
 cases x with
 | d x => exact Rep.same e.ff _ _ h
 | c i => exact ⟨Nat.lt_of_lt_of_le h.1 e.ln, by rw [e.al i h.1]; exact h.2⟩
theorem RepVs.up {xs : List CD} {vs : List V} (h : RepVs K W xs vs) (e : W.Ext W') : RepVs K W' xs vs := Paired.mapP h fun _ _ r => RepV.up r e
theorem RepS.up {γ : List (Option CD)} {σ : St} (h : RepS K W γ σ) (e : W.Ext W') : RepS K W' γ σ := Paired.mapP h fun a b r => by
 cases a <;> cases b
 · exact True.intro
 · exact False.elim r
 · exact False.elim r
 · exact RepV.up r e
theorem RepX.up {dx : Option Addr} {fs : List (Str × CD)} (h : RepX K W dx fs) (e : W.Ext W') : RepX K W' dx fs := by
 cases dx with
 | none => exact h
 | some d =>
  obtain ⟨h0, us, h1, h2⟩ := h
  exact ⟨h0, us, e.ff _ _ h1, Paired.mapP h2 fun _ _ r => ⟨r.1, RepV.up r.2 e⟩⟩
theorem RepC.up {a : Addr} {c : Cell} {o : HO} (h : RepC K W a c o) (e : W.Ext W') : RepC K W' a c o := by
 cases c <;> cases o <;> first | exact (let ⟨dx, h1, h2⟩ := h; ⟨dx, h1, h2.up e⟩) | exact False.elim h | exact RepVs.up h e | exact Paired.mapP h fun _ _ r => ⟨r.1, RepV.up r.2 e⟩ | exact ⟨h.1, Paired.mapP h.2 fun _ _ r => ⟨r.1, RepV.up r.2 e⟩⟩
theorem Good.lay (g : Good K W M H) {p : Addr} {o : HO} (hp : H p = none) : W.Ext { W with F := upd W.F p o } /\ Good K { W with F := upd W.F p o } M (upd H p o) := by
 have fp : W.F p = none := g.fh.free hp
 have e : W.Ext { W with F := upd W.F p o } := ⟨Same.upd fp, Nat.le_refl _, fun _ _ => rfl⟩
 refine ⟨e, ?_, g.n, fun i c hi hc => ?_, g.inj⟩
 · intro b u hb
   have hb : upd W.F p o b = some u := hb
   by_cases q : b = p
   · subst q; rw [aR] at hb; rw [aR]; exact hb
   · rw [aL q] at hb
     rw [aL q]; exact g.fh b u hb
 · obtain ⟨h1, o', h2, h3⟩ := g.cs i c hi hc
   have ne : W.α i ≠ p := aO h2 hp
   exact ⟨by show upd W.F p o (W.α i) = none; rw [aL ne]; exact h1, o', by rw [aL ne]; exact h2, h3.up e⟩
def Wd.more (W : Wd) (p : Addr) : Wd := { W with α := fun i => if i = W.n then p else W.α i, n := W.n + 1 }
theorem Wd.ext_more (W : Wd) (p : Addr) : W.Ext (W.more p) := ⟨Same.refl _, Nat.le_succ _, fun i h => if_neg (Nat.ne_of_lt h)⟩
theorem Good.new (g : Good K W M H) {p : Addr} {c : Cell} {o : HO} (hp : H p = none) (r : RepC K W p c o) : Good K (W.more p) (M ++ [c]) (upd H p o) := by
 have e := W.ext_more p
 have at_ : ∀ i c', (M ++ [c])[i]? = some c' -> (i < M.length /\ M[i]? = some c') \/ (i = M.length /\ c' = c) := fun i c' h => by
  by_cases q : i < M.length
  · rw [List.getElem?_append_left q] at h; exact .inl ⟨q, h⟩
  · rw [List.getElem?_append_right (Nat.le_of_not_lt q)] at h
    have h' : i - M.length = 0 := by
     cases k : i - M.length with
     | zero => rfl
     | succ m => rw [k] at h; simp at h
    rw [h'] at h
    refine .inr ⟨by omega, ?_⟩
    simpa using h.symm
 have al : ∀ i, i < M.length -> (W.more p).α i = W.α i := fun i h => e.al i (by rw [g.n]; exact h)
 have an : (W.more p).α M.length = p := by show (if M.length = W.n then p else _) = p; rw [if_pos g.n.symm]
 have nep : ∀ i c', M[i]? = some c' -> c' ≠ .dead -> W.α i ≠ p := fun i c' h hc => by
  obtain ⟨_, o', h2, _⟩ := g.cs i c' h hc
  exact aO h2 hp
 refine ⟨?_, ?_, fun i c' hi hc => ?_, fun i j c1 c2 hi hj d1 d2 he => ?_⟩
 · intro b u hb
   have := g.fh b u hb
   rw [aL (aO this hp)]; exact this
 · show W.n + 1 = _
   rw [g.n, List.length_append]; rfl
 · rcases at_ i c' hi with ⟨q, h⟩ | ⟨rfl, rfl⟩
   · obtain ⟨h1, o', h2, h3⟩ := g.cs i c' h hc
     rw [al i q]
     exact ⟨h1, o', by rw [aL (nep i c' h hc)]; exact h2, h3.up e⟩
   · rw [an]
     exact ⟨g.fh.free hp, o, aR, r.up e⟩
 · rcases at_ i c1 hi with ⟨q, h⟩ | ⟨rfl, rfl⟩
   · rcases at_ j c2 hj with ⟨q', h'⟩ | ⟨rfl, rfl⟩
     · rw [al i q, al j q'] at he
       exact g.inj i j c1 c2 h h' d1 d2 he
     · rw [al i q, an] at he
       exact absurd he (nep i c1 h d1)
   · rcases at_ j c2 hj with ⟨q', h'⟩ | ⟨rfl, rfl⟩
     · rw [an, al j q'] at he
       exact absurd he.symm (nep j c2 h' d2)
     · rfl
theorem Good.set (g : Good K W M H) {i : Nat} {c c' : Cell} {o' : HO} (hi : M[i]? = some c) (hc : c ≠ .dead) (r : RepC K W (W.α i) c' o') : Good K W (M.set i c') (upd H (W.α i) o') := by
 obtain ⟨h1, o, h2, h3⟩ := g.cs i c hi hc
 have lt : i < M.length := (List.getElem?_eq_some_iff.mp hi).1
 have at_ : ∀ j d, (M.set i c')[j]? = some d -> (j = i /\ d = c') \/ (j ≠ i /\ M[j]? = some d) := fun j d h => by
  by_cases q : i = j
  · subst q; rw [List.getElem?_set_self lt] at h; exact .inl ⟨rfl, (Option.some.inj h).symm⟩
  · rw [List.getElem?_set_ne q] at h; exact .inr ⟨fun z => q z.symm, h⟩
 refine ⟨?_, by rw [g.n, List.length_set], fun j d hj hd => ?_, fun j k d1 d2 hj hk e1 e2 he => ?_⟩
 · intro b u hb
   rw [aL (aO hb h1)]; exact g.fh b u hb
 · rcases at_ j d hj with ⟨rfl, rfl⟩ | ⟨q, h⟩
   · exact ⟨h1, o', aR, r⟩
   · obtain ⟨k1, u, k2, k3⟩ := g.cs j d h hd
     have ne : W.α j ≠ W.α i := fun z => q (g.inj j i d c h hi hd hc z)
     exact ⟨k1, u, by rw [aL ne]; exact k2, k3⟩
 · rcases at_ j d1 hj with ⟨rfl, rfl⟩ | ⟨q, h⟩ <;> rcases at_ k d2 hk with ⟨rfl, rfl⟩ | ⟨q', h'⟩
   · rfl
   · exact g.inj _ k c d2 hi h' hc e2 he
   · exact g.inj j _ d1 c h hi e1 hc he
   · exact g.inj j k d1 d2 h h' e1 e2 he
end
end L2
end
section
set_option Elab.async false
set_option linter.all false
set_option maxRecDepth 100000
set_option maxHeartbeats 4000000
namespace L2
open PySem PySem.Spec PyProof.Rows
abbrev Ga := List (Option CD)
abbrev Sto := List Cell
abbrev EF := Ga -> Sto -> Option (CD × Sto)
abbrev TF := Ga -> Sto -> Option (Bool × Sto)
abbrev AF := Ga -> Sto -> Option (List CD × Sto)
inductive Out where
 | nx (γ : Ga) | bk (γ : Ga) | ct (γ : Ga) | rt (x : CD)
abbrev SF := Ga -> Sto -> Option (Out × Sto)
abbrev GF := CD -> Ga -> Sto -> Option (Ga × Sto)
abbrev GsF := List CD -> Ga -> Sto -> Option (Ga × Sto)
abbrev F1 := CD -> Sto -> Option (CD × Sto)
abbrev F2 := CD -> CD -> Sto -> Option (CD × Sto)
abbrev FN := List CD -> Sto -> Option (CD × Sto)
section
variable (K : PySem.W.Frag)
def SE (t : TE) (f : EF) : Prop := ∀ γ M x M', f γ M = some (x, M') -> ∀ (W : Wd) (H : Hp) (σ : St) (Q : VK), Good K W M H -> RepS K W γ σ -> (∀ v W' H', W.Ext W' -> Good K W' M' H' -> RepV K W' x v -> Q v H') -> t σ H Q
def STt (t : TT) (f : TF) : Prop := ∀ γ M b M', f γ M = some (b, M') -> ∀ (W : Wd) (H : Hp) (σ : St) (Q : Bool -> Hp -> Prop), Good K W M H -> RepS K W γ σ -> (∀ W' H', W.Ext W' -> Good K W' M' H' -> Q b H') -> t σ H Q
def SA (t : TA) (f : AF) : Prop := ∀ γ M xs M', f γ M = some (xs, M') -> ∀ (W : Wd) (H : Hp) (σ : St) (Q : List V -> Hp -> Prop), Good K W M H -> RepS K W γ σ -> (∀ vs W' H', W.Ext W' -> Good K W' M' H' -> RepVs K W' xs vs -> Q vs H') -> t σ H Q
def PX (D : Ends) (W : Wd) (H : Hp) : Out -> Prop
 | .nx γ => ∀ σ, RepS K W γ σ -> D.nx σ H
 | .bk γ => ∀ σ, RepS K W γ σ -> D.bk σ H
 | .ct γ => ∀ σ, RepS K W γ σ -> D.ct σ H
 | .rt x => ∀ v, RepV K W x v -> D.rt v H
def SS (t : TS) (f : SF) : Prop := ∀ γ M o M', f γ M = some (o, M') -> ∀ (W : Wd) (H : Hp) (σ : St) (D : Ends), Good K W M H -> RepS K W γ σ -> (∀ W' H', W.Ext W' -> Good K W' M' H' -> PX K D W' H' o) -> t D σ H
def SG (t : TG) (f : GF) : Prop := ∀ x γ M γ' M', f x γ M = some (γ', M') -> ∀ (W : Wd) (H : Hp) (σ : St) (v : V) (Q : St -> Hp -> Prop), Good K W M H -> RepS K W γ σ -> RepV K W x v -> (∀ σ' W' H', W.Ext W' -> Good K W' M' H' -> RepS K W' γ' σ' -> Q σ' H') -> t v σ H Q
def SGs (t : TGs) (f : GsF) : Prop := ∀ xs γ M γ' M', f xs γ M = some (γ', M') -> ∀ (W : Wd) (H : Hp) (σ : St) (vs : List V) (Q : St -> Hp -> Prop), Good K W M H -> RepS K W γ σ -> RepVs K W xs vs -> (∀ σ' W' H', W.Ext W' -> Good K W' M' H' -> RepS K W' γ' σ' -> Q σ' H') -> t vs σ H Q
def P2 (r : R2) (f : F2) : Prop := ∀ x y M z M', f x y M = some (z, M') -> ∀ (W : Wd) (H : Hp) (v u : V) (Q : VK), Good K W M H -> RepV K W x v -> RepV K W y u -> (∀ w W' H', W.Ext W' -> Good K W' M' H' -> RepV K W' z w -> Q w H') -> r v u H Q
def PN (r : List V -> Hp -> VK -> Prop) (f : FN) : Prop := ∀ xs M z M', f xs M = some (z, M') -> ∀ (W : Wd) (H : Hp) (vs : List V) (Q : VK), Good K W M H -> RepVs K W xs vs -> (∀ w W' H', W.Ext W' -> Good K W' M' H' -> RepV K W' z w -> Q w H') -> r vs H Q
def spM (f : FN) : Sp := fun vs H Q _ => ∃ xs M W y M', Good K W M H /\ RepVs K W xs vs /\ f xs M = some (y, M') /\ ∀ v W' H', W.Ext W' -> Good K W' M' H' -> RepV K W' y v -> Q v H'
end
def aD (i : Nat) : EF := fun γ M => match γ[i]? with
 | some (some x) => some (x, M)
 | _ => none
def fC (x : PyData) : EF := fun _ M => some (.d x, M)
def fOp (h : F2) (f g : EF) : EF := fun γ M => (f γ M).bind fun r => (g γ r.2).bind fun q => h r.1 q.1 q.2
def fUn (h : F1) (f : EF) : EF := fun γ M => (f γ M).bind fun r => h r.1 r.2
def asB : CD -> Option Bool
 | .d (.bool b) => some b
 | _ => none
def kY (f g : EF) : EF := fun γ M => (f γ M).bind fun r => (asB r.1).bind fun b => if b = true then g γ r.2 else some (.d (.bool false), r.2)
def fOr (f g : EF) : EF := fun γ M => (f γ M).bind fun r => (asB r.1).bind fun b => if b = true then some (.d (.bool true), r.2) else g γ r.2
def LC (f : EF) : EF := fun γ M => (f γ M).bind fun r => (asB r.1).bind fun b => some (.d (.bool (!b)), r.2)
def fIf (t : TF) (f g : EF) : EF := fun γ M => (t γ M).bind fun r => if r.1 = true then f γ r.2 else g γ r.2
def JY (f g : TF) : TF := fun γ M => (f γ M).bind fun r => if r.1 = true then g γ r.2 else some (false, r.2)
def gOr (f g : TF) : TF := fun γ M => (f γ M).bind fun r => if r.1 = true then some (true, r.2) else g γ r.2
def uW (f : TF) : TF := fun γ M => (f γ M).bind fun r => some (!r.1, r.2)
def gB (f : EF) : TF := fun γ M => (f γ M).bind fun r => (asB r.1).bind fun b => some (b, r.2)
def uE (h h' : F2) (f g e : EF) : EF := fun γ M => (f γ M).bind fun r => (g γ r.2).bind fun q => (h r.1 q.1 q.2).bind fun z => (asB z.1).bind fun b => if b = true then (e γ z.2).bind fun w => h' q.1 w.1 w.2 else some (.d (.bool false), z.2)
def aI : AF := fun _ M => some ([], M)
def aC (f : EF) (g : AF) : AF := fun γ M => (f γ M).bind fun r => (g γ r.2).bind fun q => some (r.1 :: q.1, q.2)
def iM : List CD -> Option (List PyData)
 | [] => some []
 | .d x :: r => (iM r).map (x :: ·)
 | .c _ :: _ => none
def fE (f : AF) : EF := fun γ M => (f γ M).bind fun r => (iM r.1).bind fun ds => if ds.length <= sizeLine then some (.d (.tuple ds), r.2) else none
def nB (f : AF) : EF := fun γ M => (f γ M).bind fun r => (iM r.1).bind fun ds => if ds.length <= sizeLine then some (.d (.list ds), r.2) else none
def mC (f : AF) : EF := fun γ M => (f γ M).bind fun r => if r.1.length <= sizeLine then some (.c r.2.length, r.2 ++ [.lst r.1]) else none
def aJ (h : FN) (f : AF) : EF := fun γ M => (f γ M).bind fun r => h r.1 r.2
def eB : SF := fun γ M => some (.nx γ, M)
def aZ (f g : SF) : SF := fun γ M => (f γ M).bind fun r => match r.1 with
 | .nx γ' => g γ' r.2
 | o => some (o, r.2)
def kK (f : EF) : SF := fun γ M => (f γ M).bind fun r => some (.nx γ, r.2)
def cO (f : EF) : SF := fun γ M => (f γ M).bind fun r => some (.rt r.1, r.2)
def XA : SF := fun _ M => some (.rt (.d .none), M)
def sIf (c : TF) (f g : SF) : SF := fun γ M => (c γ M).bind fun r => if r.1 = true then f γ r.2 else g γ r.2
def bU (f : EF) (g : GF) : SF := fun γ M => (f γ M).bind fun r => (g r.1 γ r.2).bind fun q => some (.nx q.1, q.2)
def hName (i : Nat) : GF := fun x γ M => some (γ.set i (some x), M)
def gM : GsF := fun xs γ M => match xs with
 | [] => some (γ, M)
 | _ => none
def aX (f : GF) (g : GsF) : GsF := fun xs γ M => match xs with
 | x :: r => (f x γ M).bind fun q => g r q.1 q.2
 | [] => none
def gO (n : Nat) (g : GsF) : GF := fun x γ M => match x with
 | .d (.tuple ds) => if ds.length = n then g (ds.map .d) γ M else none
 | _ => none
abbrev F3 := CD -> CD -> CD -> Sto -> Option Sto
def hSub (fo fi : EF) (s : F3) : GF := fun x γ M => (fo γ M).bind fun r => (fi γ r.2).bind fun q => (s r.1 q.1 x q.2).bind fun M' => some (γ, M')
def vE (i j : Nat) (f : AF) : SF := fun γ M => (f γ M).bind fun r => match r.1 with
 | [x, y] => some (.nx ((γ.set i (some x)).set j (some y)), r.2)
 | _ => none
def eE (g : GF) (b : SF) : List CD -> Ga -> Sto -> Option (Out × Sto)
 | [], γ, M => some (.nx γ, M)
 | x :: xs, γ, M => (g x γ M).bind fun r => (b r.1 r.2).bind fun q => match q.1 with
  | .nx γ' => eE g b xs γ' q.2
  | .ct γ' => eE g b xs γ' q.2
  | .bk γ' => some (.nx γ', q.2)
  | .rt x => some (.rt x, q.2)
def kH (f : AF) (g : GF) (b : SF) : SF := fun γ M => (f γ M).bind fun r => eE g b r.1 γ r.2
def cP (c : TF) (b : SF) : Nat -> Ga -> Sto -> Option (Out × Sto)
 | 0, _, _ => none
 | n + 1, γ, M => (c γ M).bind fun r => if r.1 = true then (b γ r.2).bind fun q => match q.1 with
  | .nx γ' => cP c b n γ' q.2
  | .ct γ' => cP c b n γ' q.2
  | .bk γ' => some (.nx γ', q.2)
  | .rt x => some (.rt x, q.2) else some (.nx γ, r.2)
open Classical in
noncomputable def jI (c : TF) (b : SF) : SF := fun γ M => if h : ∃ n, (cP c b n γ M).isSome = true then cP c b h.choose γ M else none
def lcF (g : GF) (c : TF) (e : EF) : List CD -> Ga -> Sto -> Option (List CD × Sto)
 | [], γ, M => some ([], M)
 | x :: xs, γ, M => (g x γ M).bind fun a => (c a.1 a.2).bind fun b => if b.1 = true then (e a.1 b.2).bind fun r => (lcF g c e xs a.1 r.2).bind fun q => some (r.1 :: q.1, q.2) else lcF g c e xs a.1 b.2
def lF (cap : List (Option Nat)) (γ : Ga) : Ga := cap.map fun o => o.bind fun j => (γ[j]?).join
def fS : TF := fun _ M => some (true, M)
def nR (cap : List (Option Nat)) (f : AF) (g : GF) (c : TF) (e : EF) : AF := fun γ M => (f γ M).bind fun r => if r.1.length <= sizeLine then lcF g c e r.1 (lF cap γ) r.2 else none
def fLc (cap : List (Option Nat)) (f : AF) (g : GF) (c : TF) (e : EF) : EF := nB (nR cap f g c e)
def JP (cap : List (Option Nat)) (f : AF) (g : GF) (c : TF) (e : EF) : EF := mC (nR cap f g c e)
def fnF (ps N : Nat) (b : SF) : FN := fun xs M => if xs.length = ps then (b (xs.map some ++ List.replicate (N - xs.length) none) M).bind fun r => match r.1 with
 | .rt x => some (x, r.2)
 | .nx _ => some (.d .none, r.2)
 | _ => none else none
end L2
end
section
set_option Elab.async false
set_option linter.all false
set_option maxRecDepth 100000
set_option maxHeartbeats 4000000
namespace L2
open PySem PySem.Spec PyProof.Rows
theorem aH {α β : Type} {o : Option α} {k : α -> Option β} {r : β} (h : o.bind k = some r) : ∃ a, o = some a /\ k a = some r := by
 cases o with
 | none => cases h
 | some a => exact ⟨a, rfl, h⟩
theorem Paired.get {α β : Type} {R : α -> β -> Prop} : ∀ {xs : List α} {ys : List β} {i : Nat} {x : α}, Paired R xs ys -> xs[i]? = some x -> ∃ y, ys[i]? = some y /\ R x y
 | _, _, _, _, .nil, e => by simp at e
 | _, _, 0, _, .cons r _, e => by simp at e; subst e; exact ⟨_, rfl, r⟩
 | _, _, i + 1, x, .cons _ t, e => by
  obtain ⟨u, h1, h2⟩ := Paired.get (i := i) (x := x) t (by simpa using e)
  exact ⟨u, by simpa using h1, h2⟩
theorem Paired.set {α β : Type} {R : α -> β -> Prop} {x : α} {y : β} (r : R x y) : ∀ {xs : List α} {ys : List β} (i : Nat), Paired R xs ys -> Paired R (xs.set i x) (ys.set i y)
 | _, _, _, .nil => .nil
 | _, _, 0, .cons _ t => .cons r t
 | _, _, i + 1, .cons q t => .cons q (Paired.set r i t)
theorem Paired.app {α β : Type} {R : α -> β -> Prop} : ∀ {xs xs' : List α} {ys ys' : List β}, Paired R xs ys -> Paired R xs' ys' -> Paired R (xs ++ xs') (ys ++ ys')
 | _, _, _, _, .nil, s => s
 | _, _, _, _, .cons r t, s => .cons r (Paired.app t s)
theorem Paired.len {α β : Type} {R : α -> β -> Prop} {xs : List α} {ys : List β} (p : Paired R xs ys) : xs.length = ys.length := Paired.length p
section
variable {K : PySem.W.Frag}
theorem dZ {W : Wd} : ∀ {xs : List CD} {ds : List PyData} {vs : List V}, iM xs = some ds -> RepVs K W xs vs -> RepAll K W.F ds vs
 | [], ds, vs, e, h => by
  cases e
  cases h
  rfl
 | .c _ :: _, ds, vs, e, h => by cases e
 | .d x :: r, ds, vs, e, h => by
  cases h with
  | @cons _ v _ vs' h1 h2 =>
   unfold iM at e
   cases q : iM r with
   | none => rw [q] at e; cases e
   | some es =>
    rw [q] at e
    cases e
    exact ⟨v, vs', rfl, h1, dZ q h2⟩
theorem eQ {W : Wd} : ∀ {ds : List PyData} {vs : List V}, RepAll K W.F ds vs -> RepVs K W (ds.map .d) vs
 | [], vs, h => by rw [show vs = [] from h]; exact .nil
 | d :: ds, vs, h => by
  obtain ⟨v, r, rfl, h1, h2⟩ := h
  exact .cons h1 (eQ h2)
theorem xG : ∀ {xs : List CD} {ds : List PyData}, iM xs = some ds -> ds.length = xs.length
 | [], ds, e => by cases e; rfl
 | .c _ :: _, ds, e => by cases e
 | .d x :: r, ds, e => by
  unfold iM at e
  cases q : iM r with
  | none => rw [q] at e; cases e
  | some es =>
   rw [q] at e
   cases e
   rw [List.length_cons, List.length_cons, xG q]
theorem WI {i : Nat} : SE K (ZR i) (aD i) := by
 intro γ M x M' h W H σ Q g r k
 unfold aD at h
 cases e : γ[i]? with
 | none => rw [e] at h; cases h
 | some o =>
  cases o with
  | none => rw [e] at h; cases h
  | some y =>
   rw [e] at h
   cases h
   obtain ⟨v, hv, rv⟩ := Paired.get r e
   cases v with
   | none => exact False.elim rv
   | some v => exact ⟨v, hv, k v W H (.refl _) g rv⟩
theorem GP {i : Int} : SE K (tC (.int i)) (fC (.int i)) := by
 intro γ M x M' h W H σ Q g r k
 cases h
 exact k _ W H (.refl _) g rfl
theorem YE {b : Bool} : SE K (tC (.bl b)) (fC (.bool b)) := by
 intro γ M x M' h W H σ Q g r k
 cases h
 exact k _ W H (.refl _) g rfl
variable {ta tb tc : TE} {f g e : EF} {tt uu : TT} {ft gt : TF} {tA : TA} {fa : AF}
theorem BG {r : R2} {h : F2} (p : P2 K r h) (a : SE K ta f) (b : SE K tb g) : SE K (tOp r ta tb) (fOp h f g) := by
 intro γ M x M' hh W H σ Q G R k
 obtain ⟨⟨y, M1⟩, h1, hh⟩ := aH hh
 obtain ⟨⟨z, M2⟩, h2, hh⟩ := aH hh
 refine a _ _ _ _ h1 W H σ _ G R fun v W1 H1 e1 G1 r1 => ?_
 refine b _ _ _ _ h2 W1 H1 σ _ G1 (R.up e1) fun u W2 H2 e2 G2 r2 => ?_
 exact p _ _ _ _ _ hh W2 H2 v u Q G2 (r1.up e2) r2 fun w W3 H3 e3 G3 r3 => k w W3 H3 ((e1.trans e2).trans e3) G3 r3
theorem uJ {x : CD} {b : Bool} (h : asB x = some b) : x = .d (.bool b) := by
 cases x with
 | c n => cases h
 | d x => cases x <;> first | cases h; rfl | cases h
theorem SW (a : SE K ta f) (b : SE K tb g) : SE K (QH ta tb) (kY f g) := by
 intro γ M x M' hh W H σ Q G R k
 obtain ⟨⟨y, M1⟩, h1, hh⟩ := aH hh
 obtain ⟨c, h2, hh⟩ := aH hh
 refine a _ _ _ _ h1 W H σ _ G R fun v W1 H1 e1 G1 r1 => ?_
 have hy : y = _ := uJ h2
 subst hy
 refine ⟨c, r1, ?_⟩
 cases c with
 | true => rw [if_pos rfl]; rw [if_pos rfl] at hh; exact b _ _ _ _ hh W1 H1 σ Q G1 (R.up e1) fun w W3 H3 e3 G3 r3 => k w W3 H3 (e1.trans e3) G3 r3
 | false =>
  rw [if_neg Bool.false_ne_true]; rw [if_neg Bool.false_ne_true] at hh
  cases hh
  exact k _ W1 H1 e1 G1 rfl
theorem UZ (a : SE K ta f) : SE K (QP ta) (LC f) := by
 intro γ M x M' hh W H σ Q G R k
 obtain ⟨⟨y, M1⟩, h1, hh⟩ := aH hh
 obtain ⟨c, h2, hh⟩ := aH hh
 refine a _ _ _ _ h1 W H σ _ G R fun v W1 H1 e1 G1 r1 => ?_
 have hy : y = _ := uJ h2
 subst hy
 cases hh
 exact ⟨c, r1, k _ W1 H1 e1 G1 rfl⟩
theorem WR (t : STt K tt ft) (a : SE K ta f) (b : SE K tb g) : SE K (tIf tt ta tb) (fIf ft f g) := by
 intro γ M x M' hh W H σ Q G R k
 obtain ⟨⟨c, M1⟩, h1, hh⟩ := aH hh
 refine t _ _ _ _ h1 W H σ _ G R fun W1 H1 e1 G1 => ?_
 cases c with
 | true => rw [if_pos rfl]; rw [if_pos rfl] at hh; exact a _ _ _ _ hh W1 H1 σ Q G1 (R.up e1) fun w W3 H3 e3 G3 r3 => k w W3 H3 (e1.trans e3) G3 r3
 | false => rw [if_neg Bool.false_ne_true]; rw [if_neg Bool.false_ne_true] at hh; exact b _ _ _ _ hh W1 H1 σ Q G1 (R.up e1) fun w W3 H3 e3 G3 r3 => k w W3 H3 (e1.trans e3) G3 r3
theorem JJ {r r' : R2} {h h' : F2} (p : P2 K r h) (p' : P2 K r' h') (a : SE K ta f) (b : SE K tb g) (c : SE K tc e) : SE K (IR r r' ta tb tc) (uE h h' f g e) := by
 intro γ M x M' hh W H σ Q G R k
 obtain ⟨⟨y, M1⟩, h1, hh⟩ := aH hh
 obtain ⟨⟨z, M2⟩, h2, hh⟩ := aH hh
 obtain ⟨⟨w, M3⟩, h3, hh⟩ := aH hh
 obtain ⟨q, h4, hh⟩ := aH hh
 refine a _ _ _ _ h1 W H σ _ G R fun v W1 H1 e1 G1 r1 => ?_
 refine b _ _ _ _ h2 W1 H1 σ _ G1 (R.up e1) fun u W2 H2 e2 G2 r2 => ?_
 refine p _ _ _ _ _ h3 W2 H2 v u _ G2 (r1.up e2) r2 fun t W3 H3 e3 G3 r3 => ?_
 have hy : w = _ := uJ h4
 subst hy
 refine ⟨q, r3, ?_⟩
 have e13 := (e1.trans e2).trans e3
 cases q with
 | true =>
  rw [if_pos rfl]; rw [if_pos rfl] at hh
  obtain ⟨⟨m, M4⟩, h5, hh⟩ := aH hh
  refine c _ _ _ _ h5 W3 H3 σ _ G3 (R.up e13) fun o W4 H4 e4 G4 r4 => ?_
  exact p' _ _ _ _ _ hh W4 H4 u o Q G4 (r2.up (e3.trans e4)) r4 fun w W5 H5 e5 G5 r5 => k w W5 H5 ((e13.trans e4).trans e5) G5 r5
 | false =>
  rw [if_neg Bool.false_ne_true]; rw [if_neg Bool.false_ne_true] at hh
  cases hh
  exact k _ W3 H3 e13 G3 rfl
theorem VT (a : STt K tt ft) (b : STt K uu gt) : STt K (XX tt uu) (JY ft gt) := by
 intro γ M x M' hh W H σ Q G R k
 obtain ⟨⟨c, M1⟩, h1, hh⟩ := aH hh
 refine a _ _ _ _ h1 W H σ _ G R fun W1 H1 e1 G1 => ?_
 cases c with
 | true => rw [if_pos rfl]; rw [if_pos rfl] at hh; exact b _ _ _ _ hh W1 H1 σ Q G1 (R.up e1) fun W3 H3 e3 G3 => k W3 H3 (e1.trans e3) G3
 | false => rw [if_neg Bool.false_ne_true]; rw [if_neg Bool.false_ne_true] at hh; cases hh; exact k W1 H1 e1 G1
theorem XQ (a : STt K tt ft) (b : STt K uu gt) : STt K (tOr tt uu) (gOr ft gt) := by
 intro γ M x M' hh W H σ Q G R k
 obtain ⟨⟨c, M1⟩, h1, hh⟩ := aH hh
 refine a _ _ _ _ h1 W H σ _ G R fun W1 H1 e1 G1 => ?_
 cases c with
 | true => rw [if_pos rfl]; rw [if_pos rfl] at hh; cases hh; exact k W1 H1 e1 G1
 | false => rw [if_neg Bool.false_ne_true]; rw [if_neg Bool.false_ne_true] at hh; exact b _ _ _ _ hh W1 H1 σ Q G1 (R.up e1) fun W3 H3 e3 G3 => k W3 H3 (e1.trans e3) G3
theorem VJ (a : STt K tt ft) : STt K (YS tt) (uW ft) := by
 intro γ M x M' hh W H σ Q G R k
 obtain ⟨⟨c, M1⟩, h1, hh⟩ := aH hh
 cases hh
 exact a _ _ _ _ h1 W H σ _ G R fun W1 H1 e1 G1 => k W1 H1 e1 G1
theorem OK (a : SE K ta f) : STt K (tB ta) (gB f) := by
 intro γ M x M' hh W H σ Q G R k
 obtain ⟨⟨y, M1⟩, h1, hh⟩ := aH hh
 obtain ⟨c, h2, hh⟩ := aH hh
 refine a _ _ _ _ h1 W H σ _ G R fun v W1 H1 e1 G1 r1 => ?_
 have hy : y = _ := uJ h2
 subst hy
 cases hh
 exact ⟨_, r1, k W1 H1 e1 G1⟩
theorem MQ (a : SE K ta f) : STt K (PR ta) (gB f) := OK a
theorem RE : SA K GS aI := by
 intro γ M x M' hh W H σ Q G R k
 cases hh
 exact k [] W H (.refl _) G .nil
theorem OM (a : SE K ta f) (b : SA K tA fa) : SA K (nP ta tA) (aC f fa) := by
 intro γ M x M' hh W H σ Q G R k
 obtain ⟨⟨y, M1⟩, h1, hh⟩ := aH hh
 obtain ⟨⟨ys, M2⟩, h2, hh⟩ := aH hh
 cases hh
 refine a _ _ _ _ h1 W H σ _ G R fun v W1 H1 e1 G1 r1 => ?_
 exact b _ _ _ _ h2 W1 H1 σ _ G1 (R.up e1) fun vs W2 H2 e2 G2 r2 => k _ W2 H2 (e1.trans e2) G2 (.cons (r1.up e2) r2)
theorem RZ (b : SA K tA fa) : SE K (MU tA) (fE fa) := by
 intro γ M x M' hh W H σ Q G R k
 obtain ⟨⟨ys, M1⟩, h1, hh⟩ := aH hh
 obtain ⟨ds, h2, hh⟩ := aH hh
 by_cases hl : ds.length <= sizeLine
 · rw [if_pos hl] at hh
   cases hh
   refine b _ _ _ _ h1 W H σ _ G R fun vs W1 H1 e1 G1 r1 => ?_
   have ra := dZ h2 r1
   refine ⟨by rw [<- ra.length]; exact hl, fun p hp => ?_⟩
   obtain ⟨e2, G2⟩ := G1.lay (o := .tup vs) hp
   exact k _ _ _ (e1.trans e2) G2 ⟨p, vs, rfl, SqT.of aR, RepAll.same e2.ff _ _ ra⟩
 · rw [if_neg hl] at hh; cases hh
theorem TV (b : SA K tA fa) : SE K (WG tA) (nB fa) := by
 intro γ M x M' hh W H σ Q G R k
 obtain ⟨⟨ys, M1⟩, h1, hh⟩ := aH hh
 obtain ⟨ds, h2, hh⟩ := aH hh
 by_cases hl : ds.length <= sizeLine
 · rw [if_pos hl] at hh
   cases hh
   refine b _ _ _ _ h1 W H σ _ G R fun vs W1 H1 e1 G1 r1 => ?_
   have ra := dZ h2 r1
   refine ⟨by rw [<- ra.length]; exact hl, fun p hp => ?_⟩
   obtain ⟨e2, G2⟩ := G1.lay (o := .lst vs) hp
   exact k _ _ _ (e1.trans e2) G2 ⟨p, vs, rfl, SqL.of aR, RepAll.same e2.ff _ _ ra⟩
 · rw [if_neg hl] at hh; cases hh
theorem Good.newV {W : Wd} {M : Sto} {H : Hp} (g : Good K W M H) {p : Addr} : RepV K (W.more p) (.c M.length) (.ref p) := by
 refine ⟨?_, ?_⟩
 · show M.length < W.n + 1
   rw [g.n]; exact Nat.lt_succ_self _
 · show V.ref p = .ref (if M.length = W.n then p else W.α M.length)
   rw [if_pos g.n.symm]
theorem VO (b : SA K tA fa) : SE K (WG tA) (mC fa) := by
 intro γ M x M' hh W H σ Q G R k
 obtain ⟨⟨ys, M1⟩, h1, hh⟩ := aH hh
 by_cases hl : ys.length <= sizeLine
 · have hh : (if ys.length <= sizeLine then some (CD.c M1.length, M1 ++ [Cell.lst ys]) else none) = some (x, M') := hh
   rw [if_pos hl] at hh
   cases hh
   refine b _ _ _ _ h1 W H σ _ G R fun vs W1 H1 e1 G1 r1 => ?_
   refine ⟨by rw [<- Paired.len r1]; exact hl, fun p hp => ?_⟩
   exact k _ _ _ (e1.trans (W1.ext_more p)) (G1.new hp (c := .lst ys) (o := .lst vs) r1) G1.newV
 · have hh : (if ys.length <= sizeLine then some (CD.c M1.length, M1 ++ [Cell.lst ys]) else none) = some (x, M') := hh
   rw [if_neg hl] at hh; cases hh
theorem OH {h : FN} (b : SA K tA fa) : SE K (HW (spM K h) [] E0 tA) (aJ h fa) := by
 intro γ M x M' hh W H σ Q G R k
 obtain ⟨⟨ys, M1⟩, h1, hh⟩ := aH hh
 refine b _ _ _ _ h1 W H σ _ G R fun vs W1 H1 e1 G1 r1 => ?_
 rw [List.append_nil]
 exact ⟨ys, M1, W1, x, M', G1, r1, hh, fun v W2 H2 e2 G2 r2 => k v W2 H2 (e1.trans e2) G2 r2⟩
theorem QF {r : List V -> Hp -> VK -> Prop} {h : FN} (p : PN K r h) (b : SA K tA fa) : SE K (tCB r tA) (aJ h fa) := by
 intro γ M x M' hh W H σ Q G R k
 obtain ⟨⟨ys, M1⟩, h1, hh⟩ := aH hh
 refine b _ _ _ _ h1 W H σ _ G R fun vs W1 H1 e1 G1 r1 => ?_
 exact p _ _ _ _ hh W1 H1 vs Q G1 r1 fun v W2 H2 e2 G2 r2 => k v W2 H2 (e1.trans e2) G2 r2
end
end L2
end
section
set_option Elab.async false
set_option linter.all false
set_option maxRecDepth 100000
set_option maxHeartbeats 4000000
namespace L2
open PySem PySem.Spec PyProof.Rows
section
variable {K : PySem.W.Frag} {ta tb tc : TE} {f g e : EF} {tt uu : TT} {ft gt : TF} {tA : TA} {fa : AF} {t u : TS} {p q : SF} {tg : TG} {hg : GF} {tgs : TGs} {hgs : GsF}
theorem KG : SS K PH eB := by
 intro γ M o M' hh W H σ D G R k
 cases hh
 exact k W H (.refl _) G σ R
theorem VX (a : SS K t p) (b : SS K u q) : SS K (ZM t u) (aZ p q) := by
 intro γ M o M' hh W H σ D G R k
 obtain ⟨⟨o1, M1⟩, h1, hh⟩ := aH hh
 refine a _ _ _ _ h1 W H σ _ G R fun W1 H1 e1 G1 => ?_
 cases o1 with
 | nx γ1 =>
  intro σ1 R1
  exact b _ _ _ _ hh W1 H1 σ1 D G1 R1 fun W2 H2 e2 G2 => k W2 H2 (e1.trans e2) G2
 | bk γ1 => cases hh; exact k W1 H1 e1 G1
 | ct γ1 => cases hh; exact k W1 H1 e1 G1
 | rt x => cases hh; exact k W1 H1 e1 G1
theorem MJ (a : SE K ta f) : SS K (PZ ta) (kK f) := by
 intro γ M o M' hh W H σ D G R k
 obtain ⟨⟨y, M1⟩, h1, hh⟩ := aH hh
 cases hh
 exact a _ _ _ _ h1 W H σ _ G R fun v W1 H1 e1 G1 r1 => k W1 H1 e1 G1 σ (R.up e1)
theorem UT (a : SE K ta f) : SS K (XW ta) (cO f) := by
 intro γ M o M' hh W H σ D G R k
 obtain ⟨⟨y, M1⟩, h1, hh⟩ := aH hh
 cases hh
 exact a _ _ _ _ h1 W H σ _ G R fun v W1 H1 e1 G1 r1 => k W1 H1 e1 G1 v r1
theorem YH (c : STt K tt ft) (a : SS K t p) (b : SS K u q) : SS K (WY tt t u) (sIf ft p q) := by
 intro γ M o M' hh W H σ D G R k
 obtain ⟨⟨c1, M1⟩, h1, hh⟩ := aH hh
 refine c _ _ _ _ h1 W H σ _ G R fun W1 H1 e1 G1 => ?_
 cases c1 with
 | true => rw [if_pos rfl]; rw [if_pos rfl] at hh; exact a _ _ _ _ hh W1 H1 σ D G1 (R.up e1) fun W3 H3 e3 G3 => k W3 H3 (e1.trans e3) G3
 | false => rw [if_neg Bool.false_ne_true]; rw [if_neg Bool.false_ne_true] at hh; exact b _ _ _ _ hh W1 H1 σ D G1 (R.up e1) fun W3 H3 e3 G3 => k W3 H3 (e1.trans e3) G3
theorem oZ (a : SE K ta f) (b : SG K tg hg) : SS K (II ta tg) (bU f hg) := by
 intro γ M o M' hh W H σ D G R k
 obtain ⟨⟨y, M1⟩, h1, hh⟩ := aH hh
 obtain ⟨⟨γ1, M2⟩, h2, hh⟩ := aH hh
 cases hh
 refine a _ _ _ _ h1 W H σ _ G R fun v W1 H1 e1 G1 r1 => ?_
 exact b _ _ _ _ _ h2 W1 H1 σ v _ G1 (R.up e1) r1 fun σ' W2 H2 e2 G2 R2 => k W2 H2 (e1.trans e2) G2 σ' R2
theorem RepS.set {W : Wd} {γ : Ga} {σ : St} {x : CD} {v : V} (R : RepS K W γ σ) (i : Nat) (r : RepV K W x v) : RepS K W (γ.set i (some x)) (σ.set i (some v)) := Paired.set (R := yB K W) (show yB K W (some x) (some v) from r) i R
theorem lK {i : Nat} : SG K (pZ i) (hName i) := by
 intro x γ M γ' M' hh W H σ v Q G R r k
 cases hh
 exact k _ W H (.refl _) G (RepS.set R i r)
theorem KQ : SGs K ZS gM := by
 intro xs γ M γ' M' hh W H σ vs Q G R r k
 cases r with
 | nil => cases hh; exact ⟨rfl, k σ W H (.refl _) G R⟩
 | cons _ _ => cases hh
theorem GV (a : SG K tg hg) (b : SGs K tgs hgs) : SGs K (PU tg tgs) (aX hg hgs) := by
 intro xs γ M γ' M' hh W H σ vs Q G R r k
 cases r with
 | nil => cases hh
 | @cons x v xs vs r1 r2 =>
  obtain ⟨⟨γ1, M1⟩, h1, hh⟩ := aH (show (hg x γ M).bind _ = _ from hh)
  refine ⟨v, vs, rfl, a _ _ _ _ _ h1 W H σ v _ G R r1 fun σ1 W1 H1 e1 G1 R1 => ?_⟩
  exact b _ _ _ _ _ hh W1 H1 σ1 vs _ G1 R1 (RepVs.up r2 e1) fun σ2 W2 H2 e2 G2 R2 => k σ2 W2 H2 (e1.trans e2) G2 R2
theorem UF {n : Nat} (b : SGs K tgs hgs) : SG K (WL K n tgs) (gO n hgs) := by
 intro x γ M γ' M' hh W H σ v Q G R r k
 cases x with
 | c _ => cases hh
 | d x =>
  cases x with
  | tuple ds =>
   have hh : (if ds.length = n then hgs (ds.map .d) γ M else none) = some (γ', M') := hh
   by_cases hl : ds.length = n
   · rw [if_pos hl] at hh
     obtain ⟨a, vs, rfl, h2, h3⟩ := (show ∃ a vs, v = .ref a /\ SqT K W.F a vs /\ RepAll K W.F ds vs from r)
     exact ⟨a, vs, rfl, G.fh.seqT h2, by rw [<- h3.length]; exact hl, b _ _ _ _ _ hh W H σ vs Q G R (eQ h3) k⟩
   · rw [if_neg hl] at hh; cases hh
  | _ => cases hh
def P3 (K : PySem.W.Frag) (r : V -> V -> V -> Hp -> (Hp -> Prop) -> Prop) (f : F3) : Prop := ∀ x y z M M', f x y z M = some M' -> ∀ (W : Wd) (H : Hp) (v u w : V) (Q : Hp -> Prop), Good K W M H -> RepV K W x v -> RepV K W y u -> RepV K W z w -> (∀ W' H', W.Ext W' -> Good K W' M' H' -> Q H') -> r v u w H Q
theorem RM {r : ON} {s : F3} (p : P3 K r s) (a : SE K ta f) (b : SE K tb g) : SG K (XY ta tb r) (hSub f g s) := by
 intro x γ M γ' M' hh W H σ v Q G R rv k
 obtain ⟨⟨o, M1⟩, h1, hh⟩ := aH hh
 obtain ⟨⟨i, M2⟩, h2, hh⟩ := aH hh
 obtain ⟨M3, h3, hh⟩ := aH hh
 cases hh
 refine a _ _ _ _ h1 W H σ _ G R fun v1 W1 H1 e1 G1 r1 => ?_
 refine b _ _ _ _ h2 W1 H1 σ _ G1 (R.up e1) fun v2 W2 H2 e2 G2 r2 => ?_
 exact p _ _ _ _ _ h3 W2 H2 v1 v2 v _ G2 (r1.up e2) r2 (rv.up (e1.trans e2)) fun W3 H3 e3 G3 => k σ W3 H3 ((e1.trans e2).trans e3) G3 (R.up ((e1.trans e2).trans e3))
theorem RJ {i j : Nat} (b : SA K tA fa) : SS K (ZO i j tA) (vE i j fa) := by
 intro γ M o M' hh W H σ D G R k
 obtain ⟨⟨ys, M1⟩, h1, hh⟩ := aH hh
 refine b _ _ _ _ h1 W H σ _ G R fun vs W1 H1 e1 G1 r1 => ?_
 rcases r1 with _ | ⟨a1, _ | ⟨a2, _ | _⟩⟩
 · cases hh
 · cases hh
 · cases hh
   exact ⟨_, _, rfl, k W1 H1 e1 G1 _ (RepS.set (RepS.set (R.up e1) i a1) j a2)⟩
 · cases hh
def zH (K : PySem.W.Frag) (J : It) (xs : List CD) (W : Wd) : Prop := ∀ W' M' H', W.Ext W' -> Good K W' M' H' ->
 (∀ i x, xs[i]? = some x -> J.go i H' /\ ∀ y H'', J.yld i H' y H'' -> ∃ W'', W'.Ext W'' /\ Good K W'' M' H'' /\ RepV K W'' x y) /\ J.stop xs.length H'
def SI (K : PySem.W.Frag) (wi : TI) (f : AF) : Prop := ∀ γ M xs M', f γ M = some (xs, M') -> ∀ (W : Wd) (H : Hp) (σ : St) (R : It -> Hp -> Prop), Good K W M H -> RepS K W γ σ -> (∀ J W' H', W.Ext W' -> Good K W' M' H' -> zH K J xs W' -> R J H') -> wi σ H R
def bZ (f : EF) : AF := fun γ M => (f γ M).bind fun r => match r.1 with
 | .d x => (bI x).bind fun ds => some (ds.map .d, r.2)
 | _ => none
theorem RF (a : SE K ta f) : SI K (OI K ta) (bZ f) := by
 intro γ M xs M' hh W H σ R G Rs k
 obtain ⟨⟨y, M1⟩, h1, hh⟩ := aH hh
 cases y with
 | c _ => cases hh
 | d y =>
  obtain ⟨ds, h2, hh⟩ := aH (show (bI y).bind _ = _ from hh)
  cases hh
  refine a _ _ _ _ h1 W H σ _ G Rs fun v W1 H1 e1 G1 r1 => ?_
  obtain ⟨p, vs, rfl, hs, hr⟩ := eZ (show Rep K W1.F y v from r1) h2
  refine ⟨p, rfl, ?_⟩
  have item : ∀ (i : Nat) (x : CD) (W2 : Wd), W1.Ext W2 -> (ds.map CD.d)[i]? = some x -> ∃ u, vs[i]? = some u /\ RepV K W2 x u := fun i x W2 e2 hx => by
   obtain ⟨u, hu, ru⟩ := Paired.get (eQ hr) hx
   exact ⟨u, hu, ru.up e2⟩
  have hlen : (ds.map CD.d).length = vs.length := by rw [List.length_map]; exact hr.length
  rcases hs with hs | hs
  · refine .inl ⟨vs, G1.fh.seq hs, k _ W1 H1 e1 G1 fun W2 M2 H2 e2 G2 => ?_⟩
    have hs2 : SqL K H2 p vs := G2.fh.seq (e2.ff.seq hs)
    refine ⟨fun i x hx => ?_, ?_⟩
    · obtain ⟨u, hu, ru⟩ := item i x W2 e2 hx
      refine ⟨⟨vs, u, hs2, hu⟩, fun y' H'' hy => ⟨W2, .refl _, by rw [hy.1]; exact G2, ?_⟩⟩
      have := hy.2 vs hs2
      rw [hu] at this
      cases this
      exact ru
    · rw [hlen]
      exact ⟨vs, hs2, Nat.le_refl _⟩
  · refine .inr ⟨vs, G1.fh.seqT hs, k _ W1 H1 e1 G1 fun W2 M2 H2 e2 G2 => ?_⟩
    have hs2 : SqT K H2 p vs := G2.fh.seqT (e2.ff.seqT hs)
    refine ⟨fun i x hx => ?_, ?_⟩
    · obtain ⟨u, hu, ru⟩ := item i x W2 e2 hx
      refine ⟨⟨vs, u, hs2, hu⟩, fun y' H'' hy => ⟨W2, .refl _, by rw [hy.1]; exact G2, ?_⟩⟩
      have := hy.2 vs hs2
      rw [hu] at this
      cases this
      exact ru
    · rw [hlen]
      exact ⟨vs, hs2, Nat.le_refl _⟩
def cS (lo : Int) (n : Nat) : List CD := (List.range n).map fun i => .d (.int (lo + (i : Nat)))
theorem wR {lo : Int} {n i : Nat} {x : CD} (h : (cS lo n)[i]? = some x) : i < n /\ x = .d (.int (lo + i)) := by
 unfold cS at h
 rw [List.getElem?_map] at h
 by_cases hi : i < n
 · rw [List.getElem?_range hi] at h
   exact ⟨hi, (Option.some.inj h).symm⟩
 · rw [List.getElem?_eq_none_iff.mpr (by simpa using hi)] at h
   cases h
def bO (i : Int) : Bool := decide (-(2 ^ 62) <= i) && decide (i < 2 ^ 62)
def cZ (f : AF) : AF := fun γ M => (f γ M).bind fun r => match r.1 with
 | [.d (.int j)] => if bO j = true then some (cS 0 j.toNat, r.2) else none
 | _ => none
theorem DU {lo : Int} {n : Nat} {W : Wd} : zH K (Itr lo n) (cS lo n) W := fun W' M' H' e G =>
 ⟨fun i x hx => ⟨(wR hx).1, fun y H'' hy => ⟨W', .refl _, by rw [hy.1]; exact G, by rw [(wR hx).2]; exact hy.2⟩⟩, by show n <= _; simp [cS]⟩
theorem iJ {i : Int} (h : bO i = true) : -(2 ^ 62) <= i /\ i < 2 ^ 62 := by
 unfold bO at h
 rw [Bool.and_eq_true] at h
 exact ⟨of_decide_eq_true h.1, of_decide_eq_true h.2⟩
theorem NG (b : SA K tA fa) : SI K (PB tA) (cZ fa) := by
 intro γ M xs M' hh W H σ R G Rs k
 obtain ⟨⟨ys, M1⟩, h1, hh⟩ := aH hh
 refine b _ _ _ _ h1 W H σ _ G Rs fun vs W1 H1 e1 G1 r1 => ?_
 revert hh
 dsimp only
 split
 · rename_i j
   intro hh
   by_cases hs : bO j = true
   · rw [if_pos hs] at hh
     cases hh
     cases r1 with
     | cons r r' =>
      cases r'
      exact ⟨j, by rw [show _ = V.int j from r], (iJ hs).1, (iJ hs).2, k _ W1 H1 e1 G1 DU⟩
   · rw [if_neg hs] at hh; cases hh
 · intro hh; cases hh
theorem UJ {wi : TI} (i : SI K wi fa) (a : SG K tg hg) (b : SS K t p) : SS K (UD wi tg t) (kH fa hg p) := by
 intro γ M o M' hh W H σ D G R k
 obtain ⟨⟨xs, M1⟩, h1, hh⟩ := aH hh
 have hh : eE hg p xs γ M1 = some (o, M') := hh
 refine i _ _ _ _ h1 W H σ _ G R fun J W1 H1 e1 G1 gv => ?_
 refine ⟨fun j m σ' H' => ∃ γ' M2 W2, j <= xs.length /\ m = xs.length - j /\ W1.Ext W2 /\ Good K W2 M2 H' /\ RepS K W2 γ' σ' /\ eE hg p (xs.drop j) γ' M2 = some (o, M'), ⟨_, γ, M1, W1, Nat.zero_le _, rfl, .refl _, G1, R.up e1, hh⟩, ?_⟩
 rintro j m σ' H' ⟨γ', M2, W2, hj, rfl, e2, G2, R2, h2⟩
 obtain ⟨gv1, gv2⟩ := gv W2 M2 H' e2 G2
 by_cases hlt : j < xs.length
 · obtain ⟨go, yl⟩ := gv1 j xs[j] (List.getElem?_eq_getElem hlt)
   rw [List.drop_eq_getElem_cons hlt] at h2
   refine .inr ⟨go, fun σ3 H3 => ∃ γ3 M3 W3, W2.Ext W3 /\ Good K W3 M3 H3 /\ RepS K W3 γ3 σ3 /\ eE hg p (xs.drop (j + 1)) γ3 M3 = some (o, M'), ?_, fun y H3 hy => ?_⟩
   · rintro σ3 H3 ⟨γ3, M3, W3, e3, G3, R3, h3⟩
     exact ⟨_, by omega, γ3, M3, W3, hlt, rfl, e2.trans e3, G3, R3, h3⟩
   · obtain ⟨W8, e8, G8, ry⟩ := yl y H3 hy
     obtain ⟨⟨γ4, M4⟩, h4, h2⟩ := aH (show (hg xs[j] γ' M2).bind _ = _ from h2)
     obtain ⟨⟨o5, M5⟩, h5, h2⟩ := aH h2
     refine a _ _ _ _ _ h4 W8 _ σ' y _ G8 (R2.up e8) ry fun σ4 W4 H4 e4 G4 R4 => ?_
     refine b _ _ _ _ h5 W4 H4 σ4 _ G4 R4 fun W5 H5 e5 G5 => ?_
     have e25 := (e8.trans e4).trans e5
     cases o5 with
     | nx γ5 => exact fun σ5 R5 => ⟨γ5, M5, W5, e25, G5, R5, h2⟩
     | ct γ5 => exact fun σ5 R5 => ⟨γ5, M5, W5, e25, G5, R5, h2⟩
     | bk γ5 => cases h2; exact k W5 H5 ((e1.trans e2).trans e25) G5
     | rt x => cases h2; exact k W5 H5 ((e1.trans e2).trans e25) G5
 · have e : j = xs.length := by omega
   subst e
   rw [List.drop_length] at h2
   cases h2
   exact .inl ⟨gv2, k W2 H' (e1.trans e2) G2 σ' R2⟩
theorem JX (c : STt K tt ft) (b : SS K t p) : SS K (GD tt t) (jI ft p) := by
 intro γ M o M' hh W H σ D G R k
 unfold jI at hh
 by_cases hex : ∃ n, (cP ft p n γ M).isSome = true
 · rw [dif_pos hex] at hh
   generalize hex.choose = n at hh
   refine ⟨fun m σ' H' => ∃ γ' M2 W2, W.Ext W2 /\ Good K W2 M2 H' /\ RepS K W2 γ' σ' /\ cP ft p m γ' M2 = some (o, M'), ⟨n, γ, M, W, .refl _, G, R, hh⟩, ?_⟩
   rintro m σ' H' ⟨γ', M2, W2, e2, G2, R2, h2⟩
   cases m with
   | zero => cases h2
   | succ m =>
    obtain ⟨⟨c3, M3⟩, h3, h2⟩ := aH (show (ft γ' M2).bind _ = _ from h2)
    refine c _ _ _ _ h3 W2 H' σ' _ G2 R2 fun W3 H3 e3 G3 => ?_
    cases c3 with
    | true =>
     rw [if_pos rfl]; rw [if_pos rfl] at h2
     obtain ⟨⟨o4, M4⟩, h4, h2⟩ := aH h2
     refine ⟨fun σ4 H4 => ∃ γ4 M4 W4, W2.Ext W4 /\ Good K W4 M4 H4 /\ RepS K W4 γ4 σ4 /\ cP ft p m γ4 M4 = some (o, M'), ?_, ?_⟩
     · rintro σ4 H4 ⟨γ4, M4, W4, e4, G4, R4, h4⟩
       exact ⟨m, Nat.lt_succ_self _, γ4, M4, W4, e2.trans e4, G4, R4, h4⟩
     · refine b _ _ _ _ h4 W3 H3 σ' _ G3 (R2.up e3) fun W5 H5 e5 G5 => ?_
       have e25 := e3.trans e5
       cases o4 with
       | nx γ5 => exact fun σ5 R5 => ⟨γ5, M4, W5, e25, G5, R5, h2⟩
       | ct γ5 => exact fun σ5 R5 => ⟨γ5, M4, W5, e25, G5, R5, h2⟩
       | bk γ5 => cases h2; exact k W5 H5 (e2.trans e25) G5
       | rt x => cases h2; exact k W5 H5 (e2.trans e25) G5
    | false =>
     rw [if_neg Bool.false_ne_true]; rw [if_neg Bool.false_ne_true] at h2
     cases h2
     exact k W3 H3 (e2.trans e3) G3 σ' (R2.up e3)
 · rw [dif_neg hex] at hh; cases hh
theorem gC {c : TF} {b : SF} : ∀ {n m : Nat} {γ : Ga} {M : Sto} {r : Out × Sto}, cP c b n γ M = some r -> n <= m -> cP c b m γ M = some r
 | 0, _, _, _, _, h, _ => by cases h
 | n + 1, 0, _, _, _, _, h => by omega
 | n + 1, m + 1, γ, M, r, h, hl => by
  obtain ⟨⟨b1, M1⟩, h1, h⟩ := aH (show (c γ M).bind _ = _ from h)
  show (c γ M).bind _ = _
  rw [h1]
  show (if b1 = true then _ else _) = _
  cases b1 with
  | false => exact h
  | true =>
   rw [if_pos rfl]; rw [if_pos rfl] at h
   obtain ⟨⟨o, M2⟩, h2, h⟩ := aH h
   rw [h2]
   cases o with
   | nx γ' => exact gC (n := n) (m := m) h (by omega)
   | ct γ' => exact gC (n := n) (m := m) h (by omega)
   | bk γ' => exact h
   | rt x => exact h
theorem qA {c : TF} {b : SF} {n : Nat} {γ : Ga} {M : Sto} {r : Out × Sto} (h : cP c b n γ M = some r) : jI c b γ M = some r := by
 unfold jI
 have hex : ∃ n, (cP c b n γ M).isSome = true := ⟨n, by rw [h]; rfl⟩
 rw [dif_pos hex]
 have hs := hex.choose_spec
 cases q : cP c b hex.choose γ M with
 | none => rw [q] at hs; cases hs
 | some r' =>
  rcases Nat.le_total n hex.choose with z | z
  · rw [gC h z] at q; exact q.symm ▸ rfl
  · rw [gC q z] at h; exact h
theorem uD {W : Wd} {γ : Ga} {σ : St} (R : RepS K W γ σ) : ∀ cap : List (Option Nat), RepS K W (lF cap γ) (oM cap σ)
 | [] => .nil
 | none :: r => .cons True.intro (uD R r)
 | some j :: r => by
  refine .cons ?_ (uD R r)
  show yB K W ((γ[j]?).join) ((σ[j]?).join)
  cases e : γ[j]? with
  | none =>
   have : σ[j]? = none := by
    have hl := Paired.len R
    exact List.getElem?_eq_none_iff.mpr (by have := List.getElem?_eq_none_iff.mp e; omega)
   rw [this]
   exact True.intro
  | some x =>
   obtain ⟨y, hy, r'⟩ := Paired.get R e
   rw [hy]
   exact r'
theorem uR {g : GF} {c : TF} {e : EF} : ∀ {xs : List CD} {γ : Ga} {M : Sto} {ys : List CD} {M' : Sto}, lcF g c e xs γ M = some (ys, M') -> ys.length <= xs.length
 | [], _, _, _, _, h => by cases h; exact Nat.zero_le _
 | x :: xs, γ, M, ys, M', h => by
  obtain ⟨⟨γ1, M1⟩, h1, h⟩ := aH (show (g x γ M).bind _ = _ from h)
  obtain ⟨⟨b, M2⟩, h2, h⟩ := aH h
  cases b with
  | true =>
   rw [if_pos rfl] at h
   obtain ⟨⟨y, M3⟩, h3, h⟩ := aH h
   obtain ⟨⟨zs, M4⟩, h4, h⟩ := aH h
   cases h
   have := uR h4
   simp only [List.length_cons]
   omega
  | false =>
   rw [if_neg Bool.false_ne_true] at h
   have := uR h
   simp only [List.length_cons]
   omega
theorem IC {wi : TI} {cap : List (Option Nat)} {te : TE} {fe : EF} (i : SI K wi fa) (a : SG K tg hg) (c : STt K tt ft) (b : SE K te fe) {γ : Ga} {M : Sto} {xs : List CD} {M' : Sto} (hh : nR cap fa hg ft fe γ M = some (xs, M'))
 {W : Wd} {H : Hp} {σ : St} {Q : VK} (G : Good K W M H) (R : RepS K W γ σ) (k : ∀ vs W' H', W.Ext W' -> Good K W' M' H' -> RepVs K W' xs vs -> ∀ p, H' p = none -> Q (.ref p) (upd H' p (.lst vs))) : tLc cap wi tg tt te σ H Q := by
 obtain ⟨⟨ys, M1⟩, h1, hh⟩ := aH hh
 have hh : (if ys.length <= sizeLine then lcF hg ft fe ys (lF cap γ) M1 else none) = some (xs, M') := hh
 by_cases hl : ys.length <= sizeLine
 · rw [if_pos hl] at hh
   refine i _ _ _ _ h1 W H σ _ G R fun J W1 H1 e1 G1 gv => ?_
   refine ⟨fun j m acc σ' H' => ∃ γ' M2 W2 pre suf, j <= ys.length /\ m = ys.length - j /\ acc.length <= j /\ W1.Ext W2 /\ Good K W2 M2 H' /\ RepS K W2 γ' σ' /\ RepVs K W2 pre acc /\ pre ++ suf = xs /\ lcF hg ft fe (ys.drop j) γ' M2 = some (suf, M'),
    ⟨_, lF cap γ, M1, W1, [], xs, Nat.zero_le _, rfl, Nat.zero_le _, .refl _, G1, uD (R.up e1) cap, .nil, rfl, hh⟩, ?_⟩
   rintro j m acc σ' H' ⟨γ', M2, W2, pre, suf, hj, rfl, hacc, e2, G2, R2, rp, hx, h2⟩
   obtain ⟨gv1, gv2⟩ := gv W2 M2 H' e2 G2
   by_cases hlt : j < ys.length
   · obtain ⟨go, yl⟩ := gv1 j ys[j] (List.getElem?_eq_getElem hlt)
     rw [List.drop_eq_getElem_cons hlt] at h2
     refine .inr ⟨go, by omega, fun acc3 σ3 H3 => ∃ γ3 M3 W3 pre3 suf3, acc3.length <= j + 1 /\ W2.Ext W3 /\ Good K W3 M3 H3 /\ RepS K W3 γ3 σ3 /\ RepVs K W3 pre3 acc3 /\ pre3 ++ suf3 = xs /\ lcF hg ft fe (ys.drop (j + 1)) γ3 M3 = some (suf3, M'), ?_, fun y H3 hy => ?_⟩
     · rintro acc3 σ3 H3 ⟨γ3, M3, W3, pre3, suf3, hl3, e3, G3, R3, rp3, hx3, h3⟩
       exact ⟨_, by omega, γ3, M3, W3, pre3, suf3, hlt, rfl, hl3, e2.trans e3, G3, R3, rp3, hx3, h3⟩
     · obtain ⟨W8, e8, G8, ry⟩ := yl y H3 hy
       obtain ⟨⟨γ4, M4⟩, h4, h2⟩ := aH (show (hg ys[j] γ' M2).bind _ = _ from h2)
       obtain ⟨⟨b5, M5⟩, h5, h2⟩ := aH h2
       refine a _ _ _ _ _ h4 W8 _ σ' y _ G8 (R2.up e8) ry fun σ4 W4 H4 e4 G4 R4 => ?_
       refine c _ _ _ _ h5 W4 H4 σ4 _ G4 R4 fun W5 H5 e5 G5 => ?_
       have e25 := (e8.trans e4).trans e5
       cases b5 with
       | true =>
        rw [if_pos rfl] at h2
        obtain ⟨⟨z, M6⟩, h6, h2⟩ := aH h2
        obtain ⟨⟨zs, M7⟩, h7, h2⟩ := aH h2
        cases h2
        refine .inl ⟨rfl, b _ _ _ _ h6 W5 H5 σ4 _ G5 (R4.up e5) fun v W6 H6 e6 G6 r6 => ?_⟩
        refine ⟨γ4, M6, W6, pre ++ [z], zs, by rw [List.length_append]; simp only [List.length_singleton]; omega, e25.trans e6, G6, R4.up (e5.trans e6), Paired.app (RepVs.up rp (e25.trans e6)) (.cons r6 .nil), by rw [<- hx, List.append_assoc]; rfl, h7⟩
       | false =>
        rw [if_neg Bool.false_ne_true] at h2
        exact .inr ⟨rfl, γ4, M5, W5, pre, suf, by omega, e25, G5, R4.up e5, RepVs.up rp e25, hx, h2⟩
   · have e : j = ys.length := by omega
     subst e
     rw [List.drop_length] at h2
     cases h2
     rw [List.append_nil] at hx
     subst hx
     exact .inl ⟨gv2, k acc W2 H' (e1.trans e2) G2 rp⟩
 · rw [if_neg hl] at hh; cases hh
theorem CN {cap : List (Option Nat)} {fa : AF} {hg : GF} {ft : TF} {fe : EF} {γ : Ga} {M : Sto} {xs : List CD} {M' : Sto} (hh : nR cap fa hg ft fe γ M = some (xs, M')) : xs.length <= sizeLine := by
 obtain ⟨⟨ys, M1⟩, h1, hh⟩ := aH hh
 have hh : (if ys.length <= sizeLine then lcF hg ft fe ys (lF cap γ) M1 else none) = some (xs, M') := hh
 by_cases hl : ys.length <= sizeLine
 · rw [if_pos hl] at hh
   exact Nat.le_trans (uR hh) hl
 · rw [if_neg hl] at hh; cases hh
theorem QO {wi : TI} {cap : List (Option Nat)} {te : TE} {fe : EF} (i : SI K wi fa) (a : SG K tg hg) (c : STt K tt ft) (b : SE K te fe) : SE K (tLc cap wi tg tt te) (fLc cap fa hg ft fe) := by
 intro γ M x M' hh W H σ Q G R k
 obtain ⟨⟨ys, M1⟩, h1, hh⟩ := aH hh
 obtain ⟨ds, h2, hh⟩ := aH hh
 by_cases hl : ds.length <= sizeLine
 · rw [if_pos hl] at hh
   cases hh
   refine IC i a c b h1 G R fun vs W1 H1 e1 G1 r1 p hp => ?_
   obtain ⟨e2, G2⟩ := G1.lay (o := .lst vs) hp
   exact k _ _ _ (e1.trans e2) G2 ⟨p, vs, rfl, SqL.of aR, RepAll.same e2.ff _ _ (dZ h2 r1)⟩
 · rw [if_neg hl] at hh; cases hh
theorem QV {wi : TI} {cap : List (Option Nat)} {te : TE} {fe : EF} (i : SI K wi fa) (a : SG K tg hg) (c : STt K tt ft) (b : SE K te fe) : SE K (tLc cap wi tg tt te) (JP cap fa hg ft fe) := by
 intro γ M x M' hh W H σ Q G R k
 obtain ⟨⟨ys, M1⟩, h1, hh⟩ := aH hh
 have hh : (if ys.length <= sizeLine then some (CD.c M1.length, M1 ++ [Cell.lst ys]) else none) = some (x, M') := hh
 rw [if_pos (CN h1)] at hh
 cases hh
 refine IC i a c b h1 G R fun vs W1 H1 e1 G1 r1 p hp => ?_
 exact k _ _ _ (e1.trans (W1.ext_more p)) (G1.new hp (c := .lst ys) (o := .lst vs) r1) G1.newV
theorem WA : STt K YD fS := by
 intro γ M x M' hh W H σ Q G R k
 cases hh
 exact k W H (.refl _) G
theorem RepVs.some {W : Wd} : ∀ {xs : List CD} {vs : List V}, RepVs K W xs vs -> RepS K W (xs.map some) (vs.map some)
 | _, _, .nil => .nil
 | _, _, .cons r t => .cons r (RepVs.some t)
theorem lL {W : Wd} : ∀ n : Nat, RepS K W (List.replicate n none) (List.replicate n none)
 | 0 => .nil
 | n + 1 => .cons True.intro (lL n)
theorem Def.okM {P : Program} {w : World} {mg : Str -> Option Value} {base : Heap} {x : Str} {st : Stmt} {N ps : List Str} {k : Nat} {b : SF} {q : Bool} (D : Def K mg x st) (S : aT N ps (aE st))
 (hb : ∀ (kV doc pm : Value) (an : Option Addr) (cdv ct : Value) (us : List Value), us.length = ps.length -> bindArgs (PySem.W.fnOf x x (dD st) (bJ st) (aE st) .none kV doc pm an cdv ct) ⟨us, []⟩ = pure (ps.zip us))
 (hbody : ∀ (f : Addr) (cdv : Value) (A : Around) (outer : List Env) (s : Shared) (H : Hp) (E : XK), Room k (A.deeper (envOfC x (aE st) s.heap.objs.size f cdv)) q ->
  ∃ t, PSs (lW CX0 P w K mg base N x (aE st) f cdv A outer s H E q).nox (bJ st) t /\ SS K t b) : Callee P w K mg base (k + 1) x ps (spM K (fnF ps.length N.length b)) q := by
 have len : ∀ vs H Q E, spM K (fnF ps.length N.length b) vs H Q E -> vs.length = ps.length := fun vs H Q E h => by
  obtain ⟨xs, M, W, y, M', G, R, hf, _⟩ := h
  by_cases hl : xs.length = ps.length
  · rw [<- Paired.len R]; exact hl
  · unfold fnF at hf
    rw [if_neg hl] at hf; cases hf
 refine D.ok S hb len fun f cdv A outer s H vs Q E hr h => ?_
 obtain ⟨t, hP, hS⟩ := hbody f cdv A outer s H E hr
 refine ⟨t, hP, ?_⟩
 obtain ⟨xs, M, W, y, M', G, R, hf, k⟩ := h
 by_cases hl : xs.length = ps.length
 · unfold fnF at hf
   rw [if_pos hl] at hf
   obtain ⟨⟨o, M1⟩, h1, hf⟩ := aH hf
   have hR : RepS K W (xs.map some ++ List.replicate (N.length - xs.length) none) (start N vs) := by
    unfold start
    rw [<- Paired.len R]
    exact Paired.app (RepVs.some R) (lL _)
   refine hS _ _ _ _ h1 W H _ _ G hR fun W1 H1 e1 G1 => ?_
   cases o with
   | rt x => cases hf; exact fun v r => k v W1 H1 e1 G1 r
   | nx γ => cases hf; exact fun σ r => k .non W1 H1 e1 G1 rfl
   | bk γ => cases hf
   | ct γ => cases hf
 · unfold fnF at hf
   rw [if_neg hl] at hf; cases hf
end
end L2
end
section
set_option Elab.async false
set_option linter.all false
set_option maxRecDepth 100000
set_option maxHeartbeats 4000000
namespace L2
open PySem PySem.Spec PyProof.Rows
def xH (h h' : F2) : F2 := fun x y M => match h x y M with
 | some r => some r
 | none => h' x y M
def pI (g : Int -> Int -> Option PyData) : F2 := fun x y M => match x, y with
 | .d (.int i), .d (.int j) => (g i j).bind fun z => some (.d z, M)
 | _, _ => none
theorem FG {g : Int -> Int -> Option PyData} {x y : CD} {M : Sto} {z : CD} {M' : Sto} (h : pI g x y M = some (z, M')) : ∃ i j w, x = .d (.int i) /\ y = .d (.int j) /\ g i j = some w /\ z = .d w /\ M' = M := by
 unfold pI at h
 split at h
 · rename_i i j
   obtain ⟨w, h1, h⟩ := aH h
   cases h
   exact ⟨i, j, w, rfl, rfl, h1, rfl, rfl⟩
 · cases h
section
variable {X : Cx} {K : PySem.W.Frag}
theorem PD {g : Int -> Int -> Int} : P2 K (rI0 fun i j => .int (g i j)) (pI fun i j => some (.int (g i j))) := by
 intro x y M z M' h W H v u Q G rx ry k
 obtain ⟨i, j, w, rfl, rfl, hw, rfl, rfl⟩ := FG h
 cases hw
 exact ⟨i, j, rx, ry, k _ W H (.refl _) G rfl⟩
theorem AJ {g : Int -> Int -> Bool} : P2 K (rI0 fun i j => .bl (g i j)) (pI fun i j => some (.bool (g i j))) := by
 intro x y M z M' h W H v u Q G rx ry k
 obtain ⟨i, j, w, rfl, rfl, hw, rfl, rfl⟩ := FG h
 cases hw
 exact ⟨i, j, rx, ry, k _ W H (.refl _) G rfl⟩
def ifS (c : Bool) (x : PyData) : Option PyData := if c = true then some x else none
theorem WH {c : Bool} {x y : PyData} (h : ifS c x = some y) : c = true /\ y = x := by
 unfold ifS at h
 cases c with
 | true => rw [if_pos rfl] at h; cases h; exact ⟨rfl, rfl⟩
 | false => rw [if_neg Bool.false_ne_true] at h; cases h
theorem KC {C : Int -> Int -> Prop} {c : Int -> Int -> Bool} {g : Int -> Int -> Int} (hc : ∀ i j, c i j = true -> C i j) : P2 K (rI C fun i j => .int (g i j)) (pI fun i j => ifS (c i j) (.int (g i j))) := by
 intro x y M z M' h W H v u Q G rx ry k
 obtain ⟨i, j, w, rfl, rfl, hw, rfl, rfl⟩ := FG h
 obtain ⟨h1, rfl⟩ := WH hw
 exact ⟨i, j, rx, ry, hc i j h1, k _ W H (.refl _) G rfl⟩
def SD : F2 := pI fun i j => some (.int (i + j))
def NP : F2 := pI fun i j => some (.int (i - j))
def nN (i j : Int) : Bool := decide (i.natAbs < 2 ^ 64) || decide (j.natAbs < 2 ^ 64) || (decide (i.natAbs < nZ) && decide (j.natAbs < nZ))
def yC : F2 := pI fun i j => ifS (nN i j) (.int (i * j))
def sS (_ j : Int) : Bool := decide (0 < j) && decide (j.natAbs < nZ)
def rW : F2 := pI fun i j => ifS (sS i j) (.int (i / j))
def lX (_ j : Int) : Bool := decide (0 < j)
def lP : F2 := pI fun i j => ifS (lX i j) (.int (i % j))
def wQ (i j : Int) : Bool := decide (0 <= j) && decide (j <= 1000000) && decide (i.natAbs < 2 ^ 64)
def zK : F2 := pI fun i j => ifS (wQ i j) (.int (i ^ j.toNat))
theorem mulOk_of {i j : Int} (h : nN i j = true) : CMulA i j := by
 unfold nN at h
 simp only [Bool.or_eq_true, Bool.and_eq_true, decide_eq_true_eq] at h
 rcases h with (h | h) | h
 · exact .inl (.inl ⟨by omega, by omega⟩)
 · exact .inl (.inr ⟨by omega, by omega⟩)
 · exact .inr h
def ltI : F2 := pI fun i j => some (.bool (decide (i < j)))
def leI : F2 := pI fun i j => some (.bool (decide (i <= j)))
def gtI : F2 := pI fun i j => some (.bool (decide (j < i)))
def geI : F2 := pI fun i j => some (.bool (decide (j <= i)))
def eqD (neg : Bool) : F2 := fun x y M => match x, y with
 | .d a, .d b => if (SeqAt.shaped a && SeqAt.shaped b) = true then some (.d (.bool (if neg then !PyData.eqv a b else PyData.eqv a b)), M) else none
 | _, _ => none
theorem QD {neg : Bool} : P2 K (HN K neg) (eqD neg) := by
 intro x y M z M' h W H v u Q G rx ry k
 unfold eqD at h
 split at h
 · rename_i a b
   by_cases hs : (SeqAt.shaped a && SeqAt.shaped b) = true
   · rw [if_pos hs] at h
     cases h
     rw [Bool.and_eq_true] at hs
     exact ⟨a, b, Rep.same G.fh _ _ rx, Rep.same G.fh _ _ ry, hs.1, hs.2, k _ W H (.refl _) G rfl⟩
   · rw [if_neg hs] at h; cases h
 · cases h
def inD (neg : Bool) : F2 := fun x y M => match x, y with
 | .d a, .d b => (bI b).bind fun ds => if (SeqAt.shaped a && ds.all SeqAt.shaped) = true then some (.d (.bool (if neg then !ds.any fun d => PyData.eqv d a else ds.any fun d => PyData.eqv d a)), M) else none
 | _, _ => none
theorem YF {neg : Bool} : P2 K (VE K neg) (inD neg) := by
 intro x y M z M' h W H v u Q G rx ry k
 unfold inD at h
 split at h
 · rename_i a b
   obtain ⟨ds, h1, h⟩ := aH h
   by_cases hs : (SeqAt.shaped a && ds.all SeqAt.shaped) = true
   · rw [if_pos hs] at h
     cases h
     rw [Bool.and_eq_true] at hs
     obtain ⟨p, vs, rfl, hq, hr⟩ := eZ (Rep.same G.fh _ _ ry) h1
     exact ⟨a, ds, p, vs, Rep.same G.fh _ _ rx, rfl, hq, hr, hs.1, hs.2, k _ W H (.refl _) G rfl⟩
   · rw [if_neg hs] at h; cases h
 · cases h
theorem RepAll.nth {H : Hp} {ds : List PyData} {vs : List V} {i : Nat} {d : PyData} (h : RepAll K H ds vs) (e : ds[i]? = some d) : ∃ v, vs[i]? = some v /\ Rep K H d v := by
 have hlt : i < vs.length := by rw [<- h.length]; exact (List.getElem?_eq_some_iff.mp e).1
 have hv : vs[i]? = some vs[i] := List.getElem?_eq_getElem hlt
 obtain ⟨d', hd', r⟩ := h.get hv
 rw [e] at hd'
 cases hd'
 exact ⟨_, hv, r⟩
theorem GE {α : Type} {xs : List α} {i : Int} {x : α} (h : atI xs i = some x) : ∃ j, ixN xs.length i = some j /\ xs[j]? = some x := by
 unfold atI at h
 exact aH h
theorem yW {α : Type} {xs : List α} {i : Int} {j : Nat} {x : α} (h : ixN xs.length i = some j) (e : xs[j]? = some x) : atI xs i = some x := by
 unfold atI
 rw [h]
 exact e
def ixF : F2 := fun x y M => match x, y with
 | .d a, .d (.int n) => (bI a).bind fun ds => (atI ds n).bind fun e => some (.d e, M)
 | .c i, .d (.int n) => match M[i]? with
  | some (.lst xs) => (atI xs n).bind fun e => some (e, M)
  | _ => none
 | _, _ => none
theorem Good.lstAt {W : Wd} {M : Sto} {H : Hp} {i : Nat} {xs : List CD} (G : Good K W M H) (h : M[i]? = some (.lst xs)) : ∃ vs, H (W.α i) = some (.lst vs) /\ RepVs K W xs vs := by
 obtain ⟨_, o, h2, h3⟩ := G.cs i _ h (by intro z; cases z)
 cases o with
 | lst vs => exact ⟨vs, h2, h3⟩
 | _ => exact False.elim h3
theorem XR : P2 K (rIx K) ixF := by
 intro x y M z M' h W H v u Q G rx ry k
 unfold ixF at h
 split at h
 · rename_i a n
   obtain ⟨ds, h1, h⟩ := aH h
   obtain ⟨e, h2, h⟩ := aH h
   cases h
   obtain ⟨p, vs, rfl, hq, hr⟩ := eZ (Rep.same G.fh _ _ rx) h1
   obtain ⟨j, hj, he⟩ := GE h2
   obtain ⟨w, hw, rw'⟩ := hr.nth he
   have hlen := hr.length
   have hat : atI vs n = some w := yW (by rw [<- hlen]; exact hj) hw
   obtain ⟨p', vs', e', hq', hr'⟩ := eZ (show Rep K W.F a (.ref p) from rx) h1
   cases e'
   have same : ∀ w', vs'[j]? = some w' -> Rep K W.F e w' := fun w' hw' => by
    obtain ⟨w2, h3, h4⟩ := hr'.nth he
    rw [hw'] at h3
    cases h3
    exact h4
   obtain ⟨w', hw', r'⟩ := hr'.nth he
   have hat' : atI vs' n = some w' := yW (by rw [<- hr'.length]; exact hj) hw'
   rcases hq' with hq' | hq'
   · exact .inl ⟨p, vs', n, w', rfl, ry, G.fh.seq hq', hat', k _ W H (.refl _) G r'⟩
   · exact .inr (.inl ⟨p, vs', n, w', rfl, ry, G.fh.seqT hq', hat', k _ W H (.refl _) G r'⟩)
 · rename_i i n
   split at h
   · rename_i xs hx
     obtain ⟨e, h2, h⟩ := aH h
     cases h
     obtain ⟨vs, hv, hr⟩ := G.lstAt hx
     obtain ⟨j, hj, he⟩ := GE h2
     obtain ⟨w, hw, r'⟩ := Paired.get hr he
     have hat : atI vs n = some w := yW (by rw [<- Paired.len hr]; exact hj) hw
     rw [show v = .ref (W.α i) from rx.2]
     exact .inl ⟨_, vs, n, w, rfl, ry, SqL.of hv, hat, k _ W H (.refl _) G r'⟩
   · cases h
 · cases h
def oI : FN := fun xs M => match xs with
 | [.d a] => (bI a).bind fun ds => some (.d (.int ds.length), M)
 | [.c i] => match M[i]? with
  | some (.lst ys) => some (.d (.int ys.length), M)
  | _ => none
 | _ => none
theorem QZ : PN K (fun xs H Q => ∃ p ys, xs = [.ref p] /\ (SqL K H p ys \/ SqT K H p ys) /\ Q (.int ys.length) H) oI := by
 intro xs M z M' h W H vs Q G r k
 unfold oI at h
 split at h
 · rename_i a
   obtain ⟨ds, h1, h⟩ := aH h
   cases h
   rcases r with _ | ⟨r1, _ | _⟩
   obtain ⟨p, us, rfl, hq, hr⟩ := eZ (Rep.same G.fh _ _ r1) h1
   refine ⟨p, us, rfl, hq, ?_⟩
   rw [<- hr.length]
   exact k _ W H (.refl _) G rfl
 · rename_i i
   split at h
   · rename_i ys hy
     cases h
     rcases r with _ | ⟨r1, _ | _⟩
     obtain ⟨us, hv, hr⟩ := G.lstAt hy
     rw [r1.2]
     refine ⟨_, us, rfl, .inl (SqL.of hv), ?_⟩
     rw [<- Paired.len hr]
     exact k _ W H (.refl _) G rfl
   · cases h
 · cases h
def kL : FN := fun xs M => match xs with
 | [.d a] => (bI a).bind fun ds => some (.d (.list ds), M)
 | [.c i] => match M[i]? with
  | some (.lst ys) => (iM ys).bind fun ds => some (.d (.list ds), M)
  | _ => none
 | _ => none
theorem OO : PN K (fun xs H Q => ∃ p ys, xs = [.ref p] /\ (SqL K H p ys \/ SqT K H p ys) /\ ∀ l, H l = none -> Q (.ref l) (upd H l (.lst ys))) kL := by
 intro xs M z M' h W H vs Q G r k
 unfold kL at h
 split at h
 · rename_i a
   obtain ⟨ds, h1, h⟩ := aH h
   cases h
   rcases r with _ | ⟨r1, _ | _⟩
   obtain ⟨p, us, rfl, hq, hr⟩ := eZ (show Rep K W.F a _ from r1) h1
   refine ⟨p, us, rfl, hq.imp (fun z => G.fh.seq z) (fun z => G.fh.seqT z), fun l hl => ?_⟩
   obtain ⟨e2, G2⟩ := G.lay (o := .lst us) hl
   exact k _ _ _ e2 G2 ⟨l, us, rfl, SqL.of aR, RepAll.same e2.ff _ _ hr⟩
 · rename_i i
   split at h
   · rename_i ys hy
     obtain ⟨ds, h1, h⟩ := aH h
     cases h
     rcases r with _ | ⟨r1, _ | _⟩
     obtain ⟨us, hv, hr⟩ := G.lstAt hy
     rw [r1.2]
     refine ⟨_, us, rfl, .inl (SqL.of hv), fun l hl => ?_⟩
     obtain ⟨e2, G2⟩ := G.lay (o := .lst us) hl
     exact k _ _ _ e2 G2 ⟨l, us, rfl, SqL.of aR, RepAll.same e2.ff _ _ (dZ h1 hr)⟩
   · cases h
 · cases h
def cA : FN := fun xs M => match xs with
 | [.d (.list ds)] => some (.d (.tuple ds), M)
 | [.d (.tuple ds)] => some (.d (.tuple ds), M)
 | [.c i] => match M[i]? with
  | some (.lst ys) => (iM ys).bind fun ds => some (.d (.tuple ds), M)
  | _ => none
 | _ => none
theorem EA : PN K (fun xs H Q => ∃ p ys, xs = [.ref p] /\ ((SqL K H p ys /\ ∀ l, H l = none -> Q (.ref l) (upd H l (.tup ys))) \/ (SqT K H p ys /\ Q (.ref p) H))) cA := by
 intro xs M z M' h W H vs Q G r k
 unfold cA at h
 split at h
 · rename_i ds
   cases h
   rcases r with _ | ⟨r1, _ | _⟩
   obtain ⟨p, us, rfl, hq, hr⟩ := (show ∃ a us, _ = V.ref a /\ SqL K W.F a us /\ RepAll K W.F ds us from r1)
   refine ⟨p, us, rfl, .inl ⟨G.fh.seq hq, fun l hl => ?_⟩⟩
   obtain ⟨e2, G2⟩ := G.lay (o := .tup us) hl
   exact k _ _ _ e2 G2 ⟨l, us, rfl, SqT.of aR, RepAll.same e2.ff _ _ hr⟩
 · rename_i ds
   cases h
   rcases r with _ | ⟨r1, _ | _⟩
   obtain ⟨p, us, rfl, hq, hr⟩ := (show ∃ a us, _ = V.ref a /\ SqT K W.F a us /\ RepAll K W.F ds us from r1)
   exact ⟨p, us, rfl, .inr ⟨G.fh.seqT hq, k _ W H (.refl _) G ⟨p, us, rfl, hq, hr⟩⟩⟩
 · rename_i i
   split at h
   · rename_i ys hy
     obtain ⟨ds, h1, h⟩ := aH h
     cases h
     rcases r with _ | ⟨r1, _ | _⟩
     obtain ⟨us, hv, hr⟩ := G.lstAt hy
     rw [r1.2]
     refine ⟨_, us, rfl, .inl ⟨SqL.of hv, fun l hl => ?_⟩⟩
     obtain ⟨e2, G2⟩ := G.lay (o := .tup us) hl
     exact k _ _ _ e2 G2 ⟨l, us, rfl, SqT.of aR, RepAll.same e2.ff _ _ (dZ h1 hr)⟩
   · cases h
 · cases h
def FJ (T : String) (f : EF) : EF := fun γ M => (f γ M).bind fun r => match r.1 with
 | .d a => some (.d (.bool (qM T a)), r.2)
 | _ => none
theorem VS {T : String} {ta : TE} {f : EF} (hT : T ∈ asked) (a : SE K ta f) : SE K (tCB (RN K) (nP ta (nP (tC (.ty T)) GS))) (FJ T f) := by
 intro γ M x M' hh W H σ Q G R k
 obtain ⟨⟨y, M1⟩, h1, hh⟩ := aH hh
 cases y with
 | c _ => cases hh
 | d y =>
  cases hh
  refine a _ _ _ _ h1 W H σ _ G R fun v W1 H1 e1 G1 r1 => ?_
  exact ⟨v, T, y, rfl, hT, Rep.same G1.fh _ _ r1, k _ W1 H1 e1 G1 rfl⟩
def zN (T U : String) (f : EF) : EF := fun γ M => (f γ M).bind fun r => match r.1 with
 | .d a => some (.d (.bool (qM T a || qM U a)), r.2)
 | _ => none
theorem MR {T U : String} {ta : TE} {f : EF} (hT : T ∈ asked) (hU : U ∈ asked) (a : SE K ta f) : SE K (tCB (GY K) (nP ta (nP (MU (nP (tC (.ty T)) (nP (tC (.ty U)) GS))) GS))) (zN T U f) := by
 intro γ M x M' hh W H σ Q G R k
 obtain ⟨⟨y, M1⟩, h1, hh⟩ := aH hh
 cases y with
 | c _ => cases hh
 | d y =>
  cases hh
  refine a _ _ _ _ h1 W H σ _ G R fun v W1 H1 e1 G1 r1 => ?_
  refine ⟨by show 2 <= sizeLine; decide, fun p hp => ?_⟩
  obtain ⟨e2, G2⟩ := G1.lay (o := .tup [.ty T, .ty U]) hp
  refine ⟨v, p, [T, U], y, rfl, aR, fun S hS => ?_, Rep.same (e2.ff.trans G2.fh) _ _ r1, ?_⟩
  · rcases List.mem_cons.mp hS with rfl | hS
    · exact hT
    · rw [List.mem_singleton.mp hS]; exact hU
  · have e : ([T, U].any fun T => qM T y) = (qM T y || qM U y) := by simp
    rw [e]
    exact k _ _ _ (e1.trans e2) G2 rfl
def MD (M : Sto) : CD -> Option Bool
 | .d .none => some false
 | .d (.bool b) => some b
 | .d (.int i) => some (i != 0)
 | .d (.list ds) => some (!ds.isEmpty)
 | .d (.tuple ds) => some (!ds.isEmpty)
 | .c i => match M[i]? with
  | some (.lst xs) => some (!xs.isEmpty)
  | some (.dk kvs) => some (!kvs.isEmpty)
  | _ => none
 | _ => none
def rA (f : EF) : TF := fun γ M => (f γ M).bind fun r => (MD r.2 r.1).bind fun b => some (b, r.2)
theorem gI {α β : Type} {xs : List α} {ys : List β} (h : xs.length = ys.length) : xs.isEmpty = ys.isEmpty := by
 cases xs <;> cases ys <;> simp at h ⊢
theorem VI {ta : TE} {f : EF} (a : SE K ta f) : STt K (fun σ H Q => ta σ H fun x H' => ∃ k, KN K x H' k /\ Q k H') (rA f) := by
 intro γ M b M' hh W H σ Q G R k
 obtain ⟨⟨y, M1⟩, h1, hh⟩ := aH hh
 obtain ⟨b1, h2, hh⟩ := aH hh
 cases hh
 refine a _ _ _ _ h1 W H σ _ G R fun v W1 H1 e1 G1 r1 => ⟨_, ?_, k W1 H1 e1 G1⟩
 cases y with
 | d y =>
  cases y with
  | none => cases h2; rw [show v = .non from r1]; rfl
  | bool c => cases h2; rw [show v = .bl _ from r1]; rfl
  | int i => cases h2; rw [show v = .int _ from r1]; rfl
  | str x => cases h2
  | list ds =>
   cases h2
   obtain ⟨p, us, rfl, hq, hr⟩ := (show ∃ a us, _ = V.ref a /\ SqL K W1.F a us /\ RepAll K W1.F ds us from r1)
   exact .inl ⟨us, G1.fh.seq hq, by rw [gI hr.length]⟩
  | tuple ds =>
   cases h2
   obtain ⟨p, us, rfl, hq, hr⟩ := (show ∃ a us, _ = V.ref a /\ SqT K W1.F a us /\ RepAll K W1.F ds us from r1)
   exact .inr (.inl ⟨us, G1.fh.seqT hq, by rw [gI hr.length]⟩)
  | dict kvs => cases h2
 | c i =>
  rw [r1.2]
  unfold MD at h2
  dsimp only at h2
  split at h2
  · rename_i xs hx
    cases h2
    obtain ⟨us, hv, hr⟩ := G1.lstAt hx
    exact .inl ⟨us, SqL.of hv, by rw [gI (Paired.len hr)]⟩
  · rename_i kvs hx
    cases h2
    obtain ⟨_, o, g2, g3⟩ := G1.cs i _ hx (by intro z; cases z)
    cases o with
    | dK us => exact .inr (.inr ⟨us, g2, by rw [gI (Paired.len g3)]⟩)
    | _ => exact False.elim g3
  · cases h2
def tK : F3 := fun x y z M => match x, y with
 | .c i, .d (.int k) => match M[i]? with
  | some (.lst xs) => (ixN xs.length k).bind fun j => some (M.set i (.lst (xs.set j z)))
  | _ => none
 | _, _ => none
theorem UL : P3 K QC tK := by
 intro x y z M M' h W H v u w Q G rx ry rz k
 unfold tK at h
 split at h
 · rename_i i n
   split at h
   · rename_i xs hx
     obtain ⟨j, h1, h⟩ := aH h
     cases h
     obtain ⟨us, hv, hr⟩ := G.lstAt hx
     refine ⟨W.α i, us, n, j, rx.2, ry, hv, by rw [<- Paired.len hr]; exact h1, ?_⟩
     exact k W _ (.refl _) (G.set hx (by intro q; cases q) (c' := .lst (xs.set j z)) (show RepVs K W _ _ from Paired.set (R := RepV K W) rz j hr))
   · cases h
 · cases h
end
end L2
end
section
set_option Elab.async false
set_option linter.all false
set_option maxRecDepth 100000
set_option maxHeartbeats 4000000
namespace L2
open PySem PySem.Spec PyProof.Rows
section
variable {X : Cx} {K : PySem.W.Frag}
def IE (K : PySem.W.Frag) : R2 := fun x y H Q => ∃ l b xs zs, x = .ref l /\ y = .ref b /\ SqL K H l xs /\ SqL K H b zs /\ xs.length + zs.length <= sizeLine /\ ∀ p, H p = none -> Q (.ref p) (upd H p (.lst (xs ++ zs)))
theorem op_catS : OpR X (binaryOp .Add) (IE X.K) := by
 intro pins s σ H x y v u Q I rx ry h
 obtain ⟨l, b, xs, zs, rfl, rfl, hH, hB, hz, q⟩ := h
 cases rx
 cases ry
 obtain ⟨its, r, ⟨⟨cls, dd, data, sl⟩, n, ho, hc, hdd, hd⟩, _⟩ := I.list hH
 obtain ⟨its2, r2, ⟨⟨cls2, dd2, data2, sl2⟩, n2, ho2, hc2, hdd2, hd2⟩, _⟩ := I.list hB
 simp only at hc hd hc2 hd2
 subst hc hd hc2 hd2
 have e1 := r.length
 have e2 := r2.length
 refine concat_meets ⟨_, ho, rfl⟩ ⟨_, ho2, rfl⟩ noFill_list_add seq_list_add PySem.F.slot_list_add PySem.F.entry_list_add (PySem.F.args_list_add_2 _ _) (list_addW l b its.toArray its2.toArray n n2 dd dd2 sl sl2 (by rw [List.size_toArray, List.size_toArray]; omega)) ⟨ho, ho2, ?_⟩
 have ea : its.toArray ++ its2.toArray = (its ++ its2).toArray := by simp
 rw [ea]
 exact ⟨.ref _, _, I.lnew (t' := s.toks) (r.append r2) (by rw [List.length_append]; omega), rfl, q _ I.fresh⟩
def qQ (M : Sto) : CD -> Option (List CD)
 | .d (.list ds) => some (ds.map .d)
 | .c i => match M[i]? with
  | some (.lst xs) => some xs
  | _ => none
 | _ => none
theorem mJ {W : Wd} {M : Sto} {H : Hp} {x : CD} {xs : List CD} {v : V} (G : Good K W M H) (h : qQ M x = some xs) (r : RepV K W x v) : ∃ p vs, v = .ref p /\ SqL K H p vs /\ RepVs K W xs vs := by
 unfold qQ at h
 split at h
 · rename_i ds
   cases h
   obtain ⟨p, us, rfl, hq, hr⟩ := (show ∃ a us, _ = V.ref a /\ SqL K W.F a us /\ RepAll K W.F ds us from r)
   exact ⟨p, us, rfl, G.fh.seq hq, eQ hr⟩
 · rename_i i
   split at h
   · rename_i ys hy
     cases h
     obtain ⟨us, hv, hr⟩ := G.lstAt hy
     exact ⟨_, us, r.2, SqL.of hv, hr⟩
   · cases h
 · cases h
def NW : F2 := fun x y M => (qQ M x).bind fun xs => (qQ M y).bind fun ys => (iM (xs ++ ys)).bind fun ds => if ds.length <= sizeLine then some (.d (.list ds), M) else none
theorem KW : P2 K (IE K) NW := by
 intro x y M z M' h W H v u Q G rx ry k
 obtain ⟨xs, h1, h⟩ := aH h
 obtain ⟨ys, h2, h⟩ := aH h
 obtain ⟨ds, h3, h⟩ := aH h
 by_cases hl : ds.length <= sizeLine
 · rw [if_pos hl] at h
   cases h
   obtain ⟨p, vs, rfl, hp, hr⟩ := mJ G h1 rx
   obtain ⟨q, us, rfl, hq, hs⟩ := mJ G h2 ry
   have el := xG h3
   rw [List.length_append] at el
   refine ⟨p, q, vs, us, rfl, rfl, hp, hq, by rw [<- Paired.len hr, <- Paired.len hs]; omega, fun l hl => ?_⟩
   obtain ⟨e2, G2⟩ := G.lay (o := .lst (vs ++ us)) hl
   exact k _ _ _ e2 G2 ⟨l, _, rfl, SqL.of aR, RepAll.same e2.ff _ _ (dZ h3 (Paired.app hr hs))⟩
 · rw [if_neg hl] at h; cases h
def RK : F2 := fun x y M => match x, y with
 | .d (.tuple xs), .d (.tuple ys) => if xs ≠ [] /\ xs.length + ys.length <= sizeLine then some (.d (.tuple (xs ++ ys)), M) else none
 | _, _ => none
theorem RepAll.nil_iff {H : Hp} {ds : List PyData} {vs : List V} (r : RepAll K H ds vs) : vs = [] ↔ ds = [] := by
 have := r.length
 constructor <;> intro h <;> subst h <;> simp at this
 · exact this
 · exact List.eq_nil_of_length_eq_zero this.symm
theorem OD : P2 K (FS K) RK := by
 intro x y M z M' h W H v u Q G rx ry k
 unfold RK at h
 split at h
 · rename_i xs ys
   by_cases hc : xs ≠ [] /\ xs.length + ys.length <= sizeLine
   · rw [if_pos hc] at h
     cases h
     obtain ⟨p, vs, rfl, hp, hr⟩ := (show ∃ a us, v = V.ref a /\ SqT K W.F a us /\ RepAll K W.F xs us from rx)
     obtain ⟨q, us, rfl, hq, hs⟩ := (show ∃ a us, u = V.ref a /\ SqT K W.F a us /\ RepAll K W.F ys us from ry)
     refine ⟨p, q, vs, us, rfl, rfl, G.fh.seqT hp, G.fh.seqT hq, fun z => hc.1 (hr.nil_iff.mp z), by rw [<- hr.length, <- hs.length]; exact hc.2, fun z => ?_, fun z l hl => ?_⟩
     · have : ys = [] := hs.nil_iff.mp z
       subst this
       rw [List.append_nil] at k
       exact k _ W H (.refl _) G ⟨p, vs, rfl, hp, hr⟩
     · obtain ⟨e2, G2⟩ := G.lay (o := .tup (vs ++ us)) hl
       exact k _ _ _ e2 G2 ⟨l, _, rfl, SqT.of aR, RepAll.same e2.ff _ _ (RepAll.app hr hs)⟩
   · rw [if_neg hc] at h; cases h
 · cases h
theorem P2.or {r r' : R2} {h h' : F2} (a : P2 K r h) (b : P2 K r' h') : P2 K (fun x y H Q => r x y H Q \/ r' x y H Q) (xH h h') := by
 intro x y M z M' hh W H v u Q G rv ru k
 unfold xH at hh
 cases e : h x y M with
 | some q =>
  rw [e] at hh
  cases hh
  exact .inl (a _ _ _ _ _ e W H v u Q G rv ru k)
 | none =>
  rw [e] at hh
  exact .inr (b _ _ _ _ _ hh W H v u Q G rv ru k)
def zC (K : PySem.W.Frag) : R2 := fun x y H Q => ∃ a b ys, x = .ref a /\ y = .ref b /\ SqT K H a [] /\ SqT K H b ys /\ Q (.ref b) H
theorem op_catT0 : OpR X (binaryOp .Add) (zC X.K) := by
 intro pins s σ H x y v u Q I rx ry h
 obtain ⟨a, b, ys, rfl, rfl, ha, hb, q⟩ := h
 cases rx
 cases ry
 obtain ⟨its, r1, ⟨⟨cls, dd, data, sl⟩, ho, hc, n, hd⟩, _⟩ := I.tuple ha
 obtain ⟨its2, r2, ⟨⟨cls2, dd2, data2, sl2⟩, ho2, hc2, n2, hd2⟩, _⟩ := I.tuple hb
 simp only at hc hd hc2 hd2
 subst hc hd hc2 hd2
 cases r1
 exact concat_meets ⟨_, ho, rfl⟩ ⟨_, ho2, rfl⟩ noFill_tuple_add seq_tuple_add PySem.F.slot_tuple_add PySem.F.entry_tuple_add (PySem.F.args_tuple_add_2 _ _) (tuple_addW0 a b #[] its2.toArray n n2 dd dd2 sl sl2 rfl) ⟨ho, ho2, ⟨.ref b, H, I, rfl, q⟩⟩
def EO : F2 := fun x y M => match x, y with
 | .d (.tuple []), .d (.tuple ys) => some (.d (.tuple ys), M)
 | _, _ => none
theorem JB : P2 K (zC K) EO := by
 intro x y M z M' h W H v u Q G rx ry k
 unfold EO at h
 split at h
 · rename_i ys
   cases h
   obtain ⟨p, vs, rfl, hp, hr⟩ := (show ∃ a us, v = V.ref a /\ SqT K W.F a us /\ RepAll K W.F [] us from rx)
   obtain ⟨q, us, rfl, hq, hs⟩ := (show ∃ a us, u = V.ref a /\ SqT K W.F a us /\ RepAll K W.F ys us from ry)
   rw [show vs = [] from hr] at hp
   exact ⟨p, q, us, rfl, rfl, G.fh.seqT hp, G.fh.seqT hq, k _ W H (.refl _) G ⟨q, us, rfl, hq, hs⟩⟩
 · cases h
def gS : F2 := xH SD (xH NW (xH EO RK))
def HD (K : PySem.W.Frag) : R2 := fun x y H Q => (rI0 fun i j => .int (i + j)) x y H Q \/ IE K x y H Q \/ zC K x y H Q \/ FS K x y H Q
theorem OV : OpR X (binaryOp .Add) (HD X.K) := op_add.or (op_catS.or (op_catT0.or KB))
theorem KU : P2 K (HD K) gS := P2.or PD (P2.or KW (P2.or JB OD))
def eqS (neg : Bool) : F2 := fun x y M => match x, y with
 | .d (.str a), .d (.str b) => some (.d (.bool (if neg then !(a == b) else a == b)), M)
 | _, _ => none
def eqX (neg : Bool) : F2 := xH (eqS neg) (eqD neg)
def VV (K : PySem.W.Frag) : R2 := fun x y H Q => rEq x y H Q \/ HN K false x y H Q
def UP (K : PySem.W.Frag) : R2 := fun x y H Q => rNe x y H Q \/ HN K true x y H Q
theorem GB {a b : Str} : decide (V.str a = V.str b) = (a == b) := by
 by_cases e : a = b
 · subst e; simp
 · have h : ¬ V.str a = V.str b := fun q => e (V.str.inj q)
   rw [decide_eq_false h, beq_eq_false_iff_ne.mpr e]
theorem VL : P2 K rEq (eqS false) := by
 intro x y M z M' h W H v u Q G rx ry k
 unfold eqS at h
 split at h
 · rename_i a b
   cases h
   rw [show v = .str a from rx, show u = .str b from ry]
   refine ⟨rfl, ?_⟩
   rw [GB]
   exact k _ W H (.refl _) G rfl
 · cases h
theorem SV : P2 K rNe (eqS true) := by
 intro x y M z M' h W H v u Q G rx ry k
 unfold eqS at h
 split at h
 · rename_i a b
   cases h
   rw [show v = .str a from rx, show u = .str b from ry]
   refine ⟨rfl, ?_⟩
   rw [GB]
   exact k _ W H (.refl _) G rfl
 · cases h
theorem UK : P2 K (VV K) (eqX false) := P2.or VL QD
theorem UM : P2 K (UP K) (eqX true) := P2.or SV QD
theorem TY (hu : X.A.units + 64 < cLine) : OpR X (compareOp .Eq) (VV X.K) := op_eq.or (UE hu)
theorem VA (hu : X.A.units + 64 < cLine) : OpR X (compareOp .NotEq) (UP X.K) := op_ne.or (RD hu)
theorem QY : P2 K (rI0 fun i j => .int (i - j)) NP := PD
theorem TN : P2 K (rI CMulA fun i j => .int (i * j)) yC := KC fun _ _ h => mulOk_of h
theorem NL : P2 K (rI QK fun i j => .int (i / j)) rW := KC fun i j h => by
 unfold sS at h
 rw [Bool.and_eq_true] at h
 exact ⟨of_decide_eq_true h.1, of_decide_eq_true (p := j.natAbs < nZ) h.2⟩
theorem VP : P2 K (rI (fun _ j => 0 < j) fun i j => .int (i % j)) lP := KC fun i j h => of_decide_eq_true h
theorem RY : P2 K (rI ZN fun i j => .int (i ^ j.toNat)) zK := KC fun i j h => by
 unfold wQ at h
 rw [Bool.and_eq_true, Bool.and_eq_true] at h
 exact ⟨of_decide_eq_true h.1.1, of_decide_eq_true h.1.2, of_decide_eq_true h.2⟩
theorem ZK : P2 K (rI0 fun i j => .bl (decide (i < j))) ltI := AJ
theorem WW : P2 K (rI0 fun i j => .bl (decide (i <= j))) leI := AJ
theorem ZC : P2 K (rI0 fun i j => .bl (decide (j < i))) gtI := AJ
theorem XE : P2 K (rI0 fun i j => .bl (decide (j <= i))) geI := AJ
end
end L2
end
section
set_option Elab.async false
set_option linter.all false
set_option maxRecDepth 100000
set_option maxHeartbeats 4000000
namespace L2
open PySem PySem.Spec PyProof.Rows
section
variable {X : Cx} {K : PySem.W.Frag}
theorem aAd (h : X.K = K) : fJ X (.builtin "isinstance") (RN K) := by subst h; exact CC
theorem XJ (h : X.K = K) : fJ X (.builtin "isinstance") (GY K) := by subst h; exact yF
def XC (K : PySem.W.Frag) : R2 := rIx K
theorem kIx (h : X.K = K) : IxR X (XC K) := by subst h; exact VQ
theorem QW : P2 K (XC K) ixF := XR
def OY (K : PySem.W.Frag) : List V -> Hp -> VK -> Prop := fun xs H Q => ∃ p ys, xs = [.ref p] /\ (SqL K H p ys \/ SqT K H p ys) /\ Q (.int ys.length) H
theorem aAa (h : X.K = K) : fJ X (.builtin "len") (OY K) := by subst h; exact uI
theorem MH : PN K (OY K) oI := QZ
def yY (K : PySem.W.Frag) : List V -> Hp -> VK -> Prop := fun xs H Q => ∃ p ys, xs = [.ref p] /\ (SqL K H p ys \/ SqT K H p ys) /\ ∀ l, H l = none -> Q (.ref l) (upd H l (.lst ys))
theorem QJ (h : X.K = K) : fJ X (.type "list") (yY K) := by subst h; exact uG
theorem HM : PN K (yY K) kL := OO
def AM (K : PySem.W.Frag) : List V -> Hp -> VK -> Prop := fun xs H Q => ∃ p ys, xs = [.ref p] /\ ((SqL K H p ys /\ ∀ l, H l = none -> Q (.ref l) (upd H l (.tup ys))) \/ (SqT K H p ys /\ Q (.ref p) H))
theorem UV (h : X.K = K) : fJ X (.type "tuple") (AM K) := by subst h; exact rE
theorem CY : PN K (AM K) cA := EA
theorem kEq (h : X.K = K) (hu : X.A.units + 64 < cLine) : OpR X (compareOp .Eq) (VV K) := by subst h; exact TY hu
theorem kNe (h : X.K = K) (hu : X.A.units + 64 < cLine) : OpR X (compareOp .NotEq) (UP K) := by subst h; exact VA hu
theorem TB (h : X.K = K) (hu : X.A.in1.units + 64 < cLine) : OpR X (compareOp .NotIn) (VE K true) := by subst h; exact CS hu
theorem aAi (h : X.K = K) : OpR X (binaryOp .Add) (HD K) := by subst h; exact OV
theorem AG {tg l : Expr} {tl : TE} (h : X.K = K) (hl : PE X l tl) : PI X tg l (OI K tl) := by subst h; exact UU hl
theorem LV {es : List Expr} {k : Nat} {t : TGs} {n : Nat} {pos : Pos} (hK : X.K = K) (hc : X.calm = true) (h : PGs X es t)
 (hn : (assignEach es X.env).length = n := by rfl) (hst : (assignEach es X.env).findIdx? (·.1) = none := by rfl) : PG X (.Tuple es k pos) (WL K n t) := by subst hK; exact SX hc h hn hst
def YZ (K : PySem.W.Frag) (ta : TE) : TT := fun σ H Q => ta σ H fun x H' => ∃ k, KN K x H' k /\ Q k H'
theorem MC {a : Expr} {ta : TE} (hK : X.K = K) (ha : PE X a ta) (he : ∀ whole, isTrue a X.env whole = (do let v <- whole; standAt a.pos; holding [v] (truthy v))) : PT X a (YZ K ta) := by subst hK; exact IW ha he
theorem LL {ta : TE} {f : EF} (a : SE K ta f) : STt K (YZ K ta) (rA f) := VI a
end
end L2
end
section
set_option Elab.async false
set_option linter.all false
namespace L2
open PySem PySem.Spec PyProof.Rows
section
variable {es : List Expr} {env : Env}
theorem eG {a b} : starEach (.Name a b :: es) env = (false, eval (.Name a b) env) :: starEach es env := rfl
theorem qD {a b c} : starEach (.Tuple a b c :: es) env = (false, eval (.Tuple a b c) env) :: starEach es env := rfl
theorem rG {a b c d} : starEach (.Call a b c d :: es) env = (false, eval (.Call a b c d) env) :: starEach es env := rfl
theorem rS {pos : Pos} : (backTo pos (starEach [] env)).any (·.1) = false := rfl
theorem kQ {pos : Pos} {e : Expr} (hs : starEach (e :: es) env = (false, eval e env) :: starEach es env) (h : (backTo pos (starEach es env)).any (·.1) = false) : (backTo pos (starEach (e :: es) env)).any (·.1) = false := by
 rw [hs]
 have e1 : backTo pos ((false, eval e env) :: starEach es env) = (false, (do let v <- eval e env; standAt pos; pure v : Sem Value)) :: backTo pos (starEach es env) \/ (backTo pos ((false, eval e env) :: starEach es env)).any (·.1) = (backTo pos (starEach es env)).any (·.1) := .inr (by unfold backTo; simp)
 rcases e1 with q | q
 · rw [q, List.any_cons, h]; rfl
 · rw [q]; exact h
end
end L2
end
section
set_option Elab.async false
set_option linter.all false
set_option maxRecDepth 100000
set_option maxHeartbeats 4000000
namespace L2
open PySem PySem.Spec PyProof.Rows
section
variable {P : Program} {w : World} {K : PySem.W.Frag} {mg : Str -> Option Value}
theorem Fun.okM {base : Heap} {x : Str} {st : Stmt} {N ps : List Str} {k : Nat} {b : SF} {f : Addr} {fd : FuncData} (F : Fun K x x st f fd) (S : aT N ps (aE st))
 (hbody : ∀ (f : Addr) (cdv : Value) (A : Around) (outer : List Env) (s : Shared) (H : Hp) (E : XK), Room k (A.deeper (envOfC x (aE st) s.heap.objs.size f cdv)) ->
  ∃ t, PSs (lW CX0 P w K mg base N x (aE st) f cdv A outer s H E).nox (bJ st) t /\ SS K t b) : kJ P w K mg base CX0 (k + 1) f fd ps (spM K (fnF ps.length N.length b)) := by
 have len : ∀ vs H Q E, spM K (fnF ps.length N.length b) vs H Q E -> vs.length = ps.length := fun vs H Q E h => by
  obtain ⟨xs, M, W, y, M', G, R, hf, _⟩ := h
  by_cases hl : xs.length = ps.length
  · rw [<- Paired.len R]; exact hl
  · unfold fnF at hf
    rw [if_neg hl] at hf; cases hf
 refine F.ok S len fun cdv A outer s H vs Q E hr h => ?_
 obtain ⟨t, hP, hS⟩ := hbody f cdv A outer s H E hr
 refine ⟨t, hP, ?_⟩
 obtain ⟨xs, M, W, y, M', G, R, hf, k⟩ := h
 by_cases hl : xs.length = ps.length
 · unfold fnF at hf
   rw [if_pos hl] at hf
   obtain ⟨⟨o, M1⟩, h1, hf⟩ := aH hf
   have hR : RepS K W (xs.map some ++ List.replicate (N.length - xs.length) none) (start N vs) := by
    unfold start
    rw [<- Paired.len R]
    exact Paired.app (RepVs.some R) (lL _)
   refine hS _ _ _ _ h1 W H _ _ G hR fun W1 H1 e1 G1 => ?_
   cases o with
   | rt x => cases hf; exact fun v r => k v W1 H1 e1 G1 r
   | nx γ => cases hf; exact fun σ r => k .non W1 H1 e1 G1 rfl
   | bk γ => cases hf
   | ct γ => cases hf
 · unfold fnF at hf
   rw [if_neg hl] at hf; cases hf
theorem Def.okL {x p : Str} {st : Stmt} {N : List Str} {k : Nat} {b : SF} {F : FN} (D : Def K mg x st) (S : aT N [p] (aE st)) (hF : F = fnF 1 N.length b)
 (hb : ∀ (kV doc pm : Value) (an : Option Addr) (cdv ct : Value) (us : List Value), us.length = [p].length -> bindArgs (PySem.W.fnOf x x (dD st) (bJ st) (aE st) .none kV doc pm an cdv ct) ⟨us, []⟩ = pure ([p].zip us))
 (hbody : ∀ (base : Heap) (f : Addr) (cdv : Value) (A : Around) (outer : List Env) (s : Shared) (H : Hp) (E : XK), Room k (A.deeper (envOfC x (aE st) s.heap.objs.size f cdv)) ->
  ∃ t, PSs (lW CX0 P w K mg base N x (aE st) f cdv A outer s H E).nox (bJ st) t /\ SS K t b) :
 ∃ f fd, mg x = some (.ref f) /\ (∀ (s : Shared) (u : Value), BindsTo s fd ⟨[u], []⟩ [(p, u)]) /\ ∀ base, kJ P w K mg base CX0 (k + 1) f fd [p] (spM K F) := by
 subst hF
 obtain ⟨f, fd, Fu, m⟩ := D.ex
 refine ⟨f, fd, m, fun s u => ?_, fun base => Fu.okM S (hbody base)⟩
 obtain ⟨oc, od, kV, doc, pm, an, cdv, ct, osl, rfl, lk, hcd⟩ := Fu.ex
 exact .of_eq (hb kV doc pm an cdv ct [u] rfl)
theorem vM {H : Hp} : ∀ ns : List Int, RepAll K H (ns.map .int) (ns.map V.int)
 | [] => rfl
 | n :: ns => ⟨.int n, ns.map V.int, rfl, rfl, vM ns⟩
theorem RX {F : FN} (hF : ∀ ns : List Int, ns.length <= 63 -> ∃ M', F [.d (.list (ns.map .int))] [] = some (.d (.bool true), M')) {H : Hp} {a : Addr} {ns : List Int} (hl : ns.length <= 63) (hS : SqL K H a (ns.map V.int)) (E : XK) :
 spM K F [.ref a] H (fun v _ => v = .bl true) E := by
 obtain ⟨M', h⟩ := hF ns hl
 refine ⟨[.d (.list (ns.map .int))], [], ⟨H, fun _ => 0, 0⟩, _, M', ⟨Same.refl H, rfl, fun i c h => by simp at h, fun i j c c' h => by simp at h⟩, .cons (show ∃ a' vs, V.ref a = .ref a' /\ SqL K H a' vs /\ RepAll K H (ns.map .int) vs from ⟨a, ns.map V.int, rfl, hS, vM ns⟩) .nil, h, fun v W' H' _ _ r => r⟩
theorem law_walk {l : PySem.W.OpenLaw} {q : Program} {loose : List Str} {XP : (Str -> Option Value) -> Heap -> Prop} {YP : World -> Heap -> Prop} {d : DefRec} {K : Params -> PySem.W.Frag} {F : FN} {k : Nat} {p : Str} (hq : PyProof.Rows.importsNone q = true) (hn : l.most = some 63) (hdf : d.params.defaults = []) (hr : Room k callerA)
 (hY : ∀ (w : World) (h : Heap), YP w h -> (K w.params).In h)
 (hT : ∀ (w : World) (mg : Str -> Option Value) (h : Heap), (K w.params).In h -> h.Ns mainGlobals mg -> ∃ f fd, mg d.name = some (.ref f) /\ (∀ (s : Shared) (u : Value), BindsTo s fd ⟨[u], []⟩ [(p, u)]) /\ ∀ base, kJ l.prog w (K w.params) mg base CX0 k f fd [p] (spM (K w.params) F))
 (hF : ∀ ns : List Int, ns.length <= 63 -> ∃ M', F [.d (.list (ns.map .int))] [] = some (.d (.bool true), M')) :
 PySem.W.WalkO q loose XP YP l.row.toRowW d [] (fun f vs => PySem.call f vs) :=
 L2.walk_of hq (n := 63) (k := k) (x := p) (CX := fun _ => CX0) (sp := fun w => spM (K w.params) F) hn (by decide) hdf hr hY
  (fun w mg fa h KX G hmg => by
   obtain ⟨f, fd, m, hb, hf⟩ := hT w mg h KX G
   have e : (some (Value.ref f)) = some (.ref fa) := m.symm.trans hmg
   cases e
   exact ⟨fd, hb, fun base _ _ => hf base⟩)
  (fun w H a ns hl _ hS => RX hF hl hS _) fun _ _ _ _ _ z => z
end
end L2
end
section
set_option Elab.async false
set_option linter.all false
set_option maxRecDepth 100000
set_option maxHeartbeats 4000000
namespace L2
open PySem PySem.Spec PyProof.Rows
def LM (e : Expr) (es : List Expr) : Prop := ∀ env : Env, starEach (e :: es) env = (false, eval e env) :: starEach es env
def Stars : List Expr -> Prop
 | [] => True
 | e :: es => LM e es /\ Stars es
theorem Stars.plain : ∀ {es : List Expr}, Stars es -> ∀ (env : Env) (pos : Pos), (backTo pos (starEach es env)).any (·.1) = false
 | [], _, _, _ => rfl
 | _ :: _, h, env, pos => kQ (h.1 env) (h.2.plain env pos)
section
variable {ι : Type}
structure ME (K : PySem.W.Frag) (X : ι -> Cx) (e : Expr) (f : EF) : Prop where
 ex : ∃ t, (∀ i, PE (X i) e t) /\ SE K t f
structure MT (K : PySem.W.Frag) (X : ι -> Cx) (e : Expr) (f : TF) : Prop where
 ex : ∃ t, (∀ i, PT (X i) e t) /\ STt K t f
structure MW (K : PySem.W.Frag) (X : ι -> Cx) (e : Expr) (f : TF) : Prop where
 ex : ∃ t, (∀ i, PW (X i) e t) /\ STt K t f
structure MA (K : PySem.W.Frag) (X : ι -> Cx) (es : List Expr) (f : AF) : Prop where
 ex : ∃ t, (∀ i, PA (X i) es t) /\ SA K t f
 st : Stars es
structure MG (K : PySem.W.Frag) (X : ι -> Cx) (e : Expr) (f : GF) : Prop where
 ex : ∃ t, (∀ i, PG (X i) e t) /\ SG K t f
structure MGs (K : PySem.W.Frag) (X : ι -> Cx) (es : List Expr) (f : GsF) : Prop where
 ex : ∃ t, (∀ i, PGs (X i) es t) /\ SGs K t f
structure MI (K : PySem.W.Frag) (X : ι -> Cx) (tg e : Expr) (f : AF) : Prop where
 ex : ∃ t, (∀ i, PI (X i) tg e t) /\ SI K t f
structure MF (K : PySem.W.Frag) (X : ι -> Cx) (es : List Expr) (f : TF) : Prop where
 ex : ∃ t, (∀ i, uK (X i) es t) /\ STt K t f
structure MS (K : PySem.W.Frag) (X : ι -> Cx) (st : Stmt) (f : SF) : Prop where
 ex : ∃ t, (∀ i, PS (X i) st t) /\ SS K t f
structure ML (K : PySem.W.Frag) (X : ι -> Cx) (st : List Stmt) (f : SF) : Prop where
 ex : ∃ t, (∀ i, PSs (X i) st t) /\ SS K t f
structure Q2 (K : PySem.W.Frag) (X : ι -> Cx) (o : Value -> Value -> Sem Value) (h : F2) : Prop where
 ex : ∃ r, (∀ i, OpR (X i) o r) /\ P2 K r h
structure QN (K : PySem.W.Frag) (X : ι -> Cx) (f : Value) (h : FN) : Prop where
 ex : ∃ r, (∀ i, fJ (X i) f r) /\ PN K r h
structure QI (K : PySem.W.Frag) (X : ι -> Cx) (h : F2) : Prop where
 ex : ∃ r, (∀ i, IxR (X i) r) /\ P2 K r h
structure QS (K : PySem.W.Frag) (X : ι -> Cx) (h : F3) : Prop where
 ex : ∃ r, (∀ i, UH (X i) r) /\ P3 K r h
variable {K : PySem.W.Frag} {X : ι -> Cx} {a b c e : Expr} {es : List Expr} {f g h : EF} {ft gt : TF} {fa : AF} {pos : Pos}
theorem aB (i : Nat) {x : Str} (hN : ∀ j, (X j).N[i]? = some x := by intro _; rfl) (hv : ∀ j, Vis (X j).env.scope x := by intro _; first | exact Or.inl rfl | exact Or.inr (Or.inl rfl) | exact Or.inr (Or.inr rfl)) (hd : (x == ("__debug__" : Str)) = false := by decide) (hcd : (x == ("__classdict__" : Str)) = false := by decide) :
 ME K X (.Name x pos) (aD i) := ⟨_, fun j => RH (hN j) (hv j) hd hcd, WI⟩
theorem aF {i : Int} {j : Nat} : ME K X (.Constant (.int i) j pos) (fC (.int i)) := ⟨_, fun _ => SC, GP⟩
theorem wG {i : Bool} {j : Nat} : ME K X (.Constant (.bool i) j pos) (fC (.bool i)) := ⟨_, fun _ => ZE, YE⟩
theorem pA {x : Str} {n : Int} (hm : ∀ i, ∃ t : Tok, (X i).mg x = some (.int n t)) (hg : ∀ i, Gl (X i) x := by intro _; rfl) (hd : (x == ("__debug__" : Str)) = false := by decide) : ME K X (.Name x pos) (fC (.int n)) :=
 ⟨_, fun i => LF (v := .int n) (hg i) (hm i).choose_spec ⟨_, rfl⟩ hd, GP⟩
theorem bT {op : Operator} {k : F2} (q : Q2 K X (binaryOp op) k) (x : ME K X a f) (y : ME K X b g) : ME K X (.BinOp a op b pos) (fOp k f g) := by
 obtain ⟨r, q1, q2⟩ := q.ex; obtain ⟨t, x1, x2⟩ := x.ex; obtain ⟨u, y1, y2⟩ := y.ex
 exact ⟨_, fun i => WN (q1 i) (x1 i) (y1 i), BG q2 x2 y2⟩
theorem eU {rest : List Expr} (x : ME K X a f) (y : ME K X (.BoolOp .And (b :: rest) pos) g) : ME K X (.BoolOp .And (a :: b :: rest) pos) (kY f g) := by
 obtain ⟨t, x1, x2⟩ := x.ex; obtain ⟨u, y1, y2⟩ := y.ex
 exact ⟨_, fun i => RB (x1 i) (y1 i), SW x2 y2⟩
theorem iE {op : BoolOp} (x : ME K X a f) : ME K X (.BoolOp op [a] pos) f := by
 obtain ⟨t, x1, x2⟩ := x.ex
 exact ⟨_, fun i => TM (x1 i), x2⟩
theorem VG (x : ME K X a f) : ME K X (.UnaryOp .Not a pos) (LC f) := by
 obtain ⟨t, x1, x2⟩ := x.ex
 exact ⟨_, fun i => RU (x1 i), UZ x2⟩
theorem iF {op : CmpOp} {k : F2} (q : Q2 K X (compareOp op) k) (x : ME K X a f) (y : ME K X b g) (hm : behindInMarks op b = false := by rfl) : ME K X (.Compare a [op] [b] pos) (fOp k f g) := by
 obtain ⟨r, q1, q2⟩ := q.ex; obtain ⟨t, x1, x2⟩ := x.ex; obtain ⟨u, y1, y2⟩ := y.ex
 exact ⟨_, fun i => MP (q1 i) (x1 i) (y1 i) hm, BG q2 x2 y2⟩
theorem FF {op op' : CmpOp} {k k' : F2} (q : Q2 K X (compareOp op) k) (q' : Q2 K X (compareOp op') k') (x : ME K X a f) (y : ME K X b g) (z : ME K X c h) (hm : lastMarks [op, op'] [b, c] = false := by with_unfolding_all rfl) : ME K X (.Compare a [op, op'] [b, c] pos) (uE k k' f g h) := by
 obtain ⟨r, q1, q2⟩ := q.ex; obtain ⟨r', q1', q2'⟩ := q'.ex; obtain ⟨t, x1, x2⟩ := x.ex; obtain ⟨u, y1, y2⟩ := y.ex; obtain ⟨v, z1, z2⟩ := z.ex
 exact ⟨_, fun i => GH (q1 i) (q1' i) (x1 i) (y1 i) (z1 i) hm, JJ q2 q2' x2 y2 z2⟩
theorem WZ (x : MT K X c ft) (y : ME K X a f) (z : ME K X b g) : ME K X (.IfExp c a b pos) (fIf ft f g) := by
 obtain ⟨t, x1, x2⟩ := x.ex; obtain ⟨u, y1, y2⟩ := y.ex; obtain ⟨v, z1, z2⟩ := z.ex
 exact ⟨_, fun i => FH (x1 i) (y1 i) (z1 i), WR x2 y2 z2⟩
theorem aG : MA K X [] aI := ⟨⟨_, fun _ => uX, RE⟩, trivial⟩
theorem aA (x : ME K X e f) (y : MA K X es fa) (hs : LM e es := by intro _; rfl) : MA K X (e :: es) (aC f fa) := by
 obtain ⟨t, x1, x2⟩ := x.ex; obtain ⟨u, y1, y2⟩ := y.ex
 exact ⟨⟨_, fun i => iK (x1 i) (y1 i) (hs _), OM x2 y2⟩, hs, y.st⟩
theorem dX {k : Nat} (x : MA K X es fa) : ME K X (.Tuple es k pos) (fE fa) := by
 obtain ⟨t, x1, x2⟩ := x.ex
 exact ⟨_, fun i => zJ (x1 i), RZ x2⟩
theorem kR (x : MA K X es fa) : ME K X (.List es pos) (nB fa) := by
 obtain ⟨t, x1, x2⟩ := x.ex
 exact ⟨_, fun i => FI (x1 i), TV x2⟩
theorem pY (x : MA K X es fa) : ME K X (.List es pos) (mC fa) := by
 obtain ⟨t, x1, x2⟩ := x.ex
 exact ⟨_, fun i => FI (x1 i), VO x2⟩
theorem bD {k : F2} (q : QI K X k) (x : ME K X a f) (y : ME K X b g) (hs : zU b := by intro _ _; rfl) : ME K X (.Subscript a b pos) (fOp k f g) := by
 obtain ⟨r, q1, q2⟩ := q.ex; obtain ⟨t, x1, x2⟩ := x.ex; obtain ⟨u, y1, y2⟩ := y.ex
 exact ⟨_, fun i => ZP (q1 i) (x1 i) (y1 i) hs, BG q2 x2 y2⟩
theorem aP {k : Nat} {x : Str} {ps : List Str} {F : FN} {p : Pos} {q : Bool} (C : ∀ i, Callee (X i).prog (X i).w (X i).K (X i).mg (X i).base k x ps (spM K F) q) (hr : ∀ i, Room k (X i).A q) (y : MA K X (e :: es) fa) (hg : ∀ i, Gl (X i) x := by intro _; rfl) (hd : (x == ("__debug__" : Str)) = false := by decide) :
 ME K X (.Call (.Name x p) (e :: es) [] pos) (aJ F fa) := by
 obtain ⟨u, y1, y2⟩ := y.ex
 exact ⟨_, fun i => SB (C i) (hr i) (y1 i) (hg i) hd (y.st.1 _) (y.st.2.plain _ _), OH y2⟩
theorem eC {x : Str} {id : String} {F : FN} {p : Pos} (q : QN K X (.builtin id) F) (hm : ∀ i, (X i).mg x = none) (hv : bootBuiltins x = some (.builtin id)) (y : MA K X (e :: es) fa) (hg : ∀ i, Gl (X i) x := by intro _; rfl) (hn : x ≠ "__name__" := by decide) (hd : (x == ("__debug__" : Str)) = false := by decide) :
 ME K X (.Call (.Name x p) (e :: es) [] pos) (aJ F fa) := by
 obtain ⟨r, q1, q2⟩ := q.ex; obtain ⟨u, y1, y2⟩ := y.ex
 exact ⟨_, fun i => pJ (q1 i) (hg i) (hm i) hv (y1 i) hn hd (y.st.1 _) (y.st.2.plain _ _), QF q2 y2⟩
theorem eA {x : Str} {id : String} {F : FN} {p : Pos} (q : QN K X (.type id) F) (hm : ∀ i, (X i).mg x = none) (hv : bootBuiltins x = some (.type id)) (y : MA K X (e :: es) fa) (hg : ∀ i, Gl (X i) x := by intro _; rfl) (hn : x ≠ "__name__" := by decide) (hd : (x == ("__debug__" : Str)) = false := by decide) :
 ME K X (.Call (.Name x p) (e :: es) [] pos) (aJ F fa) := by
 obtain ⟨r, q1, q2⟩ := q.ex; obtain ⟨u, y1, y2⟩ := y.ex
 exact ⟨_, fun i => CK (q1 i) (hg i) (hm i) hv (y1 i) hn hd (y.st.1 _) (y.st.2.plain _ _), QF q2 y2⟩
theorem FO {T : String} {y : Str} {p p' : Pos} (hK : ∀ i, (X i).K = K) (hT : T ∈ asked) (x : ME K X a f) (hs : LM a [.Name y p']) (hm : ∀ i, (X i).mg "isinstance" = none) (hmy : ∀ i, (X i).mg y = none) (hb : bootBuiltins y = some (.type T)) (hg : ∀ i, Gl (X i) "isinstance" := by intro _; rfl) (hgy : ∀ i, Gl (X i) y := by intro _; rfl)
 (hn : y ≠ "__name__" := by decide) (hd : (y == ("__debug__" : Str)) = false := by decide) : ME K X (.Call (.Name "isinstance" p) [a, .Name y p'] [] pos) (FJ T f) := by
 obtain ⟨t, x1, x2⟩ := x.ex
 refine ⟨_, fun i => pJ (aAd (hK i)) (hg i) (hm i) boot_isinstance (iK (x1 i) (iK (tH (v := .ty T) (hgy i) (hmy i) hb rfl hn hd) uX eG) (hs _)) (by decide) (by decide) (hs _) (kQ eG rS), VS hT x2⟩
theorem KM {T U : String} {y z : Str} {p p' p'' p3 : Pos} {k : Nat} (hK : ∀ i, (X i).K = K) (hT : T ∈ asked) (hU : U ∈ asked) (x : ME K X a f) (hs : LM a [.Tuple [.Name y p', .Name z p''] k p3]) (hm : ∀ i, (X i).mg "isinstance" = none) (hmy : ∀ i, (X i).mg y = none) (hmz : ∀ i, (X i).mg z = none)
 (hb : bootBuiltins y = some (.type T)) (hbz : bootBuiltins z = some (.type U)) (hg : ∀ i, Gl (X i) "isinstance" := by intro _; rfl) (hgy : ∀ i, Gl (X i) y := by intro _; rfl) (hgz : ∀ i, Gl (X i) z := by intro _; rfl)
 (hn : y ≠ "__name__" := by decide) (hd : (y == ("__debug__" : Str)) = false := by decide) (hn' : z ≠ "__name__" := by decide) (hd' : (z == ("__debug__" : Str)) = false := by decide) : ME K X (.Call (.Name "isinstance" p) [a, .Tuple [.Name y p', .Name z p''] k p3] [] pos) (zN T U f) := by
 obtain ⟨t, x1, x2⟩ := x.ex
 refine ⟨_, fun i => pJ (XJ (hK i)) (hg i) (hm i) boot_isinstance (iK (x1 i) (iK (zJ (iK (tH (v := .ty T) (hgy i) (hmy i) hb rfl hn hd) (iK (tH (v := .ty U) (hgz i) (hmz i) hbz rfl hn' hd') uX eG) eG)) uX qD) (hs _)) (by decide) (by decide) (hs _) (kQ qD rS), MR hT hU x2⟩
theorem mO (x : MT K X a ft) : MT K X (.UnaryOp .Not a pos) (uW ft) := by
 obtain ⟨t, x1, x2⟩ := x.ex
 exact ⟨_, fun i => RV (x1 i), VJ x2⟩
theorem QR {rest : List Expr} (x : MT K X a ft) (y : MW K X (.BoolOp .And (b :: rest) pos) gt) : MW K X (.BoolOp .And (a :: b :: rest) pos) (JY ft gt) := by
 obtain ⟨t, x1, x2⟩ := x.ex; obtain ⟨u, y1, y2⟩ := y.ex
 exact ⟨_, fun i => UR (x1 i) (y1 i), VT x2 y2⟩
theorem OR (x : MT K X a ft) : MW K X (.BoolOp .And [a] pos) ft := by
 obtain ⟨t, x1, x2⟩ := x.ex
 exact ⟨_, fun i => KZ (x1 i), x2⟩
theorem vB {rest : List Expr} (x : MT K X a ft) (y : MW K X (.BoolOp .Or (b :: rest) pos) gt) : MW K X (.BoolOp .Or (a :: b :: rest) pos) (gOr ft gt) := by
 obtain ⟨t, x1, x2⟩ := x.ex; obtain ⟨u, y1, y2⟩ := y.ex
 exact ⟨_, fun i => YT (x1 i) (y1 i), XQ x2 y2⟩
theorem zL (x : MT K X a ft) : MW K X (.BoolOp .Or [a] pos) ft := by
 obtain ⟨t, x1, x2⟩ := x.ex
 exact ⟨_, fun i => TR (x1 i), x2⟩
theorem KP (x : MW K X a ft) : MT K X a ft := by
 obtain ⟨t, x1, x2⟩ := x.ex
 exact ⟨_, fun i => (x1 i).pt, x2⟩
theorem cT {op : CmpOp} {k : F2} (q : Q2 K X (compareOp op) k) (x : ME K X a f) (y : ME K X b g) (hm : behindInMarks op b = false := by rfl) : MT K X (.Compare a [op] [b] pos) (gB (fOp k f g)) := by
 obtain ⟨r, q1, q2⟩ := q.ex; obtain ⟨t, x1, x2⟩ := x.ex; obtain ⟨u, y1, y2⟩ := y.ex
 exact ⟨_, fun i => LN (q1 i) (x1 i) (y1 i) hm, MQ (BG q2 x2 y2)⟩
theorem mQ (x : ME K X a f) (he : ∀ (env : Env) (whole : Sem Value), isTrue a env whole = (do let v <- whole; standAt a.pos; holding [v] (truthy v)) := by intro _ _; rfl) : MT K X a (gB f) := by
 obtain ⟨t, x1, x2⟩ := x.ex
 exact ⟨_, fun i => UA (x1 i) (he _), OK x2⟩
theorem ED (hK : ∀ i, (X i).K = K) (x : ME K X a f) (he : ∀ (env : Env) (whole : Sem Value), isTrue a env whole = (do let v <- whole; standAt a.pos; holding [v] (truthy v)) := by intro _ _; rfl) : MT K X a (rA f) := by
 obtain ⟨t, x1, x2⟩ := x.ex
 exact ⟨_, fun i => MC (hK i) (x1 i) (he _), LL x2⟩
theorem fW {tg : Expr} {p : Pos} (hm : ∀ i, (X i).mg "range" = none) (x : MA K X [a] fa) (hg : ∀ i, Gl (X i) "range" := by intro _; rfl) : MI K X tg (.Call (.Name "range" p) [a] [] pos) (cZ fa) := by
 obtain ⟨t, x1, x2⟩ := x.ex
 exact ⟨_, fun i => BV (hg i) (hm i) (x1 i) (x.st.1 _), NG x2⟩
theorem jC {tg : Expr} (hK : ∀ i, (X i).K = K) (x : ME K X a f) : MI K X tg a (bZ f) := by
 obtain ⟨t, x1, x2⟩ := x.ex
 exact ⟨_, fun i => AG (hK i) (x1 i), RF x2⟩
theorem aV (i : Nat) {x : Str} (hN : ∀ j, (X j).N.Nodup) (hi : ∀ j, (X j).N[i]? = some x := by intro _; rfl) (hx : ∀ j, Loc (X j).env.scope x := by intro _; first | exact Or.inl rfl | exact Or.inr rfl) (hf : ∀ j, (X j).fn x = true \/ (X j).env.scope.names.lookup x = some .local := by intro _; first | exact .inl rfl | exact .inr rfl) :
 MG K X (.Name x pos) (hName i) := ⟨_, fun j => KD (hN j) (hi j) (hx j) (hf j), lK⟩
theorem gE : MGs K X [] gM := ⟨_, fun _ => OS, KQ⟩
theorem bF {gf : GF} {gs : GsF} (x : MG K X e gf) (y : MGs K X es gs) (hs : ∀ env : Env, (assignEach (e :: es) env).map (·.2) = assign e env :: (assignEach es env).map (·.2) := by intro _; rfl) : MGs K X (e :: es) (aX gf gs) := by
 obtain ⟨t, x1, x2⟩ := x.ex; obtain ⟨u, y1, y2⟩ := y.ex
 exact ⟨_, fun i => JL (x1 i) (y1 i) (hs _), GV x2 y2⟩
theorem jN {gs : GsF} {k n : Nat} (hK : ∀ i, (X i).K = K) (hc : ∀ i, (X i).calm = true) (x : MGs K X es gs) (hn : ∀ env : Env, (assignEach es env).length = n := by intro _; rfl) (hst : ∀ env : Env, (assignEach es env).findIdx? (·.1) = none := by intro _; rfl) : MG K X (.Tuple es k pos) (gO n gs) := by
 obtain ⟨t, x1, x2⟩ := x.ex
 exact ⟨_, fun i => LV (hK i) (hc i) (x1 i) (hn _) (hst _), UF x2⟩
theorem FV {s : F3} (q : QS K X s) (x : ME K X a f) (y : ME K X b g) (hs : ∀ (env : Env) (v : Value), assign (.Subscript a b pos) env v = (do
 let ov <- holding [v] (eval a env)
 let iv <- holding [v, ov] (eval b env)
 standAt pos
 holding [v, ov, iv] (setItem ov iv v)
 release [v, ov, iv] []) := by intro _ _; rfl) : MG K X (.Subscript a b pos) (hSub f g s) := by
 obtain ⟨r, q1, q2⟩ := q.ex; obtain ⟨t, x1, x2⟩ := x.ex; obtain ⟨u, y1, y2⟩ := y.ex
 exact ⟨_, fun i => WE (x1 i) (y1 i) (q1 i) (hs _), RM q2 x2 y2⟩
theorem lC : MF K X [] fS := ⟨_, fun _ => GA, WA⟩
theorem xS (x : MT K X c ft) : MF K X [c] ft := by
 obtain ⟨t, x1, x2⟩ := x.ex
 exact ⟨_, fun i => EW (x1 i), x2⟩
abbrev LcI (ι : Type) : Type := ι × Addr × Shared × Hp × List Addr × List (Addr × Obj)
def dM (X : ι -> Cx) (N' : List Str) (scope : Scope) : LcI ι -> Cx := fun j => cE (X j.1) N' scope j.2.1 j.2.2.1 j.2.2.2.1 j.2.2.2.2.1 j.2.2.2.2.2
variable {N' : List Str} {cap : List (Option Nat)} {scope : Scope} {tg iter elt : Expr} {ifs : List Expr} {gf : GF}
theorem xN (hc : ∀ i, (X i).calm = true) (S : ∀ i, LcSc (X i) N' cap scope) (x : MI K X tg iter fa) (y : MG K (dM X N' scope) tg gf) (z : MF K (dM X N' scope) ifs ft) (w : ME K (dM X N' scope) elt f) (hs : ∀ (env : Env) (x : Value), foldedSetIterable iter env x = pure x := by intro _ _; rfl) :
 ME K X (.ListComp elt [⟨tg, iter, ifs, 0⟩] scope pos) (fLc cap fa gf ft f) := by
 obtain ⟨t, x1, x2⟩ := x.ex; obtain ⟨u, y1, y2⟩ := y.ex; obtain ⟨v, z1, z2⟩ := z.ex; obtain ⟨o, w1, w2⟩ := w.ex
 exact ⟨_, fun i => XG (hc i) (S i) (x1 i) (fun C s H fp pn => y1 (i, C, s, H, fp, pn)) (fun C s H fp pn => z1 (i, C, s, H, fp, pn)) (fun C s H fp pn => w1 (i, C, s, H, fp, pn)) (hs _), QO x2 y2 z2 w2⟩
theorem JC (i : Nat) {x' : Str} {pos' pos'' : Pos} (hN : ∀ j, (X j).N.Nodup) (hc : ∀ i, (X i).calm = true) (S : ∀ i, LcSc (X i) N' cap scope) (x : MI K X tg iter fa) (y : MG K (dM X N' scope) tg gf) (z : MF K (dM X N' scope) ifs ft) (w : ME K (dM X N' scope) elt f)
 (hix : ∀ j, (X j).N[i]? = some x' := by intro _; rfl) (hsw : ∀ j, swapsWith (.ListComp elt [⟨tg, iter, ifs, 0⟩] scope pos) (some (.Name x' pos')) pos''.line (X j).env = pure true := by intro _; rfl) (hx : ∀ j, (X j).env.scope.names.lookup x' = some .local := by intro _; rfl) (hs : ∀ (env : Env) (x : Value), foldedSetIterable iter env x = pure x := by intro _ _; rfl) :
 MS K X (.Assign [.Name x' pos'] (.ListComp elt [⟨tg, iter, ifs, 0⟩] scope pos) pos'') (bU (fLc cap fa gf ft f) (hName i)) := by
 obtain ⟨t, x1, x2⟩ := x.ex; obtain ⟨u, y1, y2⟩ := y.ex; obtain ⟨v, z1, z2⟩ := z.ex; obtain ⟨o, w1, w2⟩ := w.ex
 exact ⟨_, fun j => wU (hN j) (hix j) (hc j) (S j) (x1 j) (fun C s H fp pn => y1 (j, C, s, H, fp, pn)) (fun C s H fp pn => z1 (j, C, s, H, fp, pn)) (fun C s H fp pn => w1 (j, C, s, H, fp, pn)) (hsw j) (hx j) (hs _), oZ (QO x2 y2 z2 w2) lK⟩
theorem BZ (i : Nat) {x' : Str} {pos' pos'' : Pos} (hN : ∀ j, (X j).N.Nodup) (hc : ∀ i, (X i).calm = true) (S : ∀ i, LcSc (X i) N' cap scope) (x : MI K X tg iter fa) (y : MG K (dM X N' scope) tg gf) (z : MF K (dM X N' scope) ifs ft) (w : ME K (dM X N' scope) elt f)
 (hix : ∀ j, (X j).N[i]? = some x' := by intro _; rfl) (hsw : ∀ j, swapsWith (.ListComp elt [⟨tg, iter, ifs, 0⟩] scope pos) (some (.Name x' pos')) pos''.line (X j).env = pure true := by intro _; rfl) (hx : ∀ j, (X j).env.scope.names.lookup x' = some .local := by intro _; rfl) (hs : ∀ (env : Env) (x : Value), foldedSetIterable iter env x = pure x := by intro _ _; rfl) :
 MS K X (.Assign [.Name x' pos'] (.ListComp elt [⟨tg, iter, ifs, 0⟩] scope pos) pos'') (bU (JP cap fa gf ft f) (hName i)) := by
 obtain ⟨t, x1, x2⟩ := x.ex; obtain ⟨u, y1, y2⟩ := y.ex; obtain ⟨v, z1, z2⟩ := z.ex; obtain ⟨o, w1, w2⟩ := w.ex
 exact ⟨_, fun j => wU (hN j) (hix j) (hc j) (S j) (x1 j) (fun C s H fp pn => y1 (j, C, s, H, fp, pn)) (fun C s H fp pn => z1 (j, C, s, H, fp, pn)) (fun C s H fp pn => w1 (j, C, s, H, fp, pn)) (hsw j) (hx j) (hs _), oZ (QV x2 y2 z2 w2) lK⟩
variable {st : Stmt} {sts : List Stmt} {sf sg : SF}
theorem dW : ML K X [] eB := ⟨_, fun _ => NC, KG⟩
theorem aQ (x : MS K X st sf) : ML K X [st] sf := by
 obtain ⟨t, x1, x2⟩ := x.ex
 exact ⟨_, fun i => NH (x1 i), x2⟩
theorem aK (x : MS K X st sf) (y : ML K X sts sg) : ML K X (st :: sts) (aZ sf sg) := by
 obtain ⟨t, x1, x2⟩ := x.ex; obtain ⟨u, y1, y2⟩ := y.ex
 exact ⟨_, fun i => DW (x1 i) (y1 i), VX x2 y2⟩
theorem bE (x : ME K X e f) : MS K X (.Return (some e) pos) (cO f) := by
 obtain ⟨t, x1, x2⟩ := x.ex
 exact ⟨_, fun i => UG (x1 i), UT x2⟩
def tI : SF := fun _ _ => none
theorem pD : MS K X st tI := ⟨FC, fun _ => JG, fun _ _ _ _ h => by cases h⟩
theorem kA (x : ME K X e f) (hs : ∀ i, swapsWith e none pos.line (X i).env = pure false := by intro _; rfl) : MS K X (.Expr e pos) (kK f) := by
 obtain ⟨t, x1, x2⟩ := x.ex
 exact ⟨_, fun i => OJ (x1 i) (hs i), MJ x2⟩
theorem fR {sts' : List Stmt} (x : MT K X c ft) (y : ML K X sts sf) (z : ML K X sts' sg) : MS K X (.If c sts sts' pos) (sIf ft sf sg) := by
 obtain ⟨t, x1, x2⟩ := x.ex; obtain ⟨u, y1, y2⟩ := y.ex; obtain ⟨v, z1, z2⟩ := z.ex
 exact ⟨_, fun i => XI (x1 i) (y1 i) (z1 i), YH x2 y2 z2⟩
theorem pX (hp : ∀ i, PassesOwn (model (X i).prog (X i).w) (X i).A (X i).env (X i).xe) (x : MT K X c ft) (y : ML K X sts sf) : MS K X (.While c sts [] pos) (jI ft sf) := by
 obtain ⟨t, x1, x2⟩ := x.ex; obtain ⟨u, y1, y2⟩ := y.ex
 exact ⟨_, fun i => JE (hp i) (x1 i) (y1 i), JX x2 y2⟩
theorem jB (hp : ∀ i, PassesOwn (model (X i).prog (X i).w) (X i).A (X i).env (X i).xe) (hc : ∀ i, (X i).calm = true) (x : MI K X tg iter fa) (y : MG K X tg gf) (z : ML K X sts sf) (hs : ∀ (env : Env) (x : Value), foldedSetIterable iter env x = pure x := by intro _ _; rfl) : MS K X (.For tg iter sts [] pos) (kH fa gf sf) := by
 obtain ⟨t, x1, x2⟩ := x.ex; obtain ⟨u, y1, y2⟩ := y.ex; obtain ⟨v, z1, z2⟩ := z.ex
 exact ⟨_, fun i => FE (hp i) (hc i) (x1 i) (y1 i) (z1 i) (hs _), UJ x2 y2 z2⟩
theorem bA (i : Nat) {x' : Str} {pos' : Pos} (hN : ∀ j, (X j).N.Nodup) (x : ME K X e f) (hi : ∀ j, (X j).N[i]? = some x' := by intro _; rfl) (hx : ∀ j, Loc (X j).env.scope x' := by intro _; first | exact Or.inl rfl | exact Or.inr rfl) (hs : ∀ j, swapsWith e (some (.Name x' pos')) pos.line (X j).env = pure false := by intro _; rfl)
 (hf : ∀ j, (X j).fn x' = true \/ (X j).env.scope.names.lookup x' = some .local := by intro _; first | exact .inl rfl | exact .inr rfl) : MS K X (.Assign [.Name x' pos'] e pos) (bU f (hName i)) := by
 obtain ⟨t, x1, x2⟩ := x.ex
 exact ⟨_, fun j => SU (hN j) (hi j) (hx j) (x1 j) (hs j) (hf j), oZ x2 lK⟩
theorem JU (i j : Nat) {x' y' : Str} {px py pt pt2 : Pos} {kt k2 : Nat} (hc : ∀ j, (X j).calm = true) (hN : ∀ j, (X j).N.Nodup) (x : MA K X [a, b] fa) (hij : i ≠ j := by decide) (hi : ∀ k, (X k).N[i]? = some x' := by intro _; rfl) (hj : ∀ k, (X k).N[j]? = some y' := by intro _; rfl) (hx : ∀ k, (X k).env.scope.names.lookup x' = some .local := by intro _; rfl) (hy : ∀ k, (X k).env.scope.names.lookup y' = some .local := by intro _; rfl)
 (h1 : ∀ k, swappedStores [.Tuple [.Name x' px, .Name y' py] kt pt] (.Tuple [a, b] k2 pt2) (X k).env = pure (some [x', y']) := by intro _; rfl) (h2 : ∀ k, swapsWithSole [.Tuple [.Name x' px, .Name y' py] kt pt] (.Tuple [a, b] k2 pt2) pos.line (X k).env = pure false := by intro _; rfl) :
 MS K X (.Assign [.Tuple [.Name x' px, .Name y' py] kt pt] (.Tuple [a, b] k2 pt2) pos) (vE i j fa) := by
 obtain ⟨t, x1, x2⟩ := x.ex
 exact ⟨_, fun k => WC (hc k) (hN k) (hi k) (hj k) hij (hx k) (hy k) (x1 k) (h1 k) (h2 k), RJ x2⟩
theorem FP (x : ME K X e f) (y : MG K X tg gf) (h1 : ∀ k, swapsWithSole [tg] e pos.line (X k).env = pure false := by intro _; rfl) (h2 : ∀ k, swappedStores [tg] e (X k).env = pure none := by intro _; rfl) (h3 : ∀ env : Env, (assignEach [tg] env).map (·.2) = [assign tg env] := by intro _; rfl) : MS K X (.Assign [tg] e pos) (bU f gf) := by
 obtain ⟨t, x1, x2⟩ := x.ex; obtain ⟨u, y1, y2⟩ := y.ex
 exact ⟨_, fun k => VW (x1 k) (y1 k) (h1 k) (h2 k) (h3 _), oZ x2 y2⟩
theorem jW (hK : ∀ i, (X i).K = K := by intro _; rfl) : Q2 K X (binaryOp .Add) gS := ⟨_, fun i => aAi (hK i), KU⟩
theorem YY : Q2 K X (binaryOp .Sub) NP := ⟨_, fun _ => VM, QY⟩
theorem AQ : Q2 K X (binaryOp .Mult) yC := ⟨_, fun _ => OE, TN⟩
theorem yL : Q2 K X (binaryOp .FloorDiv) rW := ⟨_, fun _ => IL, NL⟩
theorem nK : Q2 K X (binaryOp .Mod) lP := ⟨_, fun _ => VR, VP⟩
theorem AR : Q2 K X (binaryOp .Pow) zK := ⟨_, fun _ => UC, RY⟩
theorem zM : Q2 K X (compareOp .Lt) ltI := ⟨_, fun _ => YO, ZK⟩
theorem XZ : Q2 K X (compareOp .LtE) leI := ⟨_, fun _ => XD, WW⟩
theorem KJ : Q2 K X (compareOp .Gt) gtI := ⟨_, fun _ => ZT, ZC⟩
theorem WM : Q2 K X (compareOp .GtE) geI := ⟨_, fun _ => XO, XE⟩
theorem tE (hK : ∀ i, (X i).K = K) (hu : ∀ i, (X i).A.units + 64 < cLine) : Q2 K X (compareOp .Eq) (eqX false) := ⟨_, fun i => kEq (hK i) (hu i), UK⟩
theorem SM (hK : ∀ i, (X i).K = K) (hu : ∀ i, (X i).A.units + 64 < cLine) : Q2 K X (compareOp .NotEq) (eqX true) := ⟨_, fun i => kNe (hK i) (hu i), UM⟩
theorem OB (hK : ∀ i, (X i).K = K) (hu : ∀ i, (X i).A.in1.units + 64 < cLine) : Q2 K X (compareOp .NotIn) (inD true) := ⟨_, fun i => TB (hK i) (hu i), YF⟩
theorem cC (hK : ∀ i, (X i).K = K := by intro _; rfl) : QI K X ixF := ⟨_, fun i => kIx (hK i), QW⟩
theorem AH (hK : ∀ i, (X i).K = K := by intro _; rfl) : QN K X (.builtin "len") oI := ⟨_, fun i => aAa (hK i), MH⟩
theorem HV (hK : ∀ i, (X i).K = K) : QN K X (.type "list") kL := ⟨_, fun i => QJ (hK i), HM⟩
theorem kB (hK : ∀ i, (X i).K = K) : QN K X (.type "tuple") cA := ⟨_, fun i => UV (hK i), CY⟩
theorem PY : QS K X tK := ⟨_, fun _ => set_list, UL⟩
end
section
variable {P : Program} {w : World} {K : PySem.W.Frag} {mg : Str -> Option Value}
theorem Def.okG {base : Heap} {x : Str} {st : Stmt} {N ps : List Str} {k : Nat} {b : SF} {q : Bool} (D : Def K mg x st) (S : aT N ps (aE st))
 (hb : ∀ (kV doc pm : Value) (an : Option Addr) (cdv ct : Value) (us : List Value), us.length = ps.length -> bindArgs (PySem.W.fnOf x x (dD st) (bJ st) (aE st) .none kV doc pm an cdv ct) ⟨us, []⟩ = pure (ps.zip us))
 (hbody : ∀ (f : Addr) (cdv : Value) (A : Around) (outer : List Env) (s : Shared) (H : Hp) (E : XK), Room k (A.deeper (envOfC x (aE st) s.heap.objs.size f cdv)) q ->
  ML K (fun _ : Unit => (lW CX0 P w K mg base N x (aE st) f cdv A outer s H E q).nox) (bJ st) b) : Callee P w K mg base (k + 1) x ps (spM K (fnF ps.length N.length b)) q :=
 D.okM S hb fun f cdv A outer s H E hr => by
  obtain ⟨t, h1, h2⟩ := (hbody f cdv A outer s H E hr).ex
  exact ⟨t, h1 (), h2⟩
theorem Def.okLG {x p : Str} {st : Stmt} {N : List Str} {k : Nat} {b : SF} {F : FN} (D : Def K mg x st) (S : aT N [p] (aE st)) (hF : F = fnF 1 N.length b)
 (hb : ∀ (kV doc pm : Value) (an : Option Addr) (cdv ct : Value) (us : List Value), us.length = [p].length -> bindArgs (PySem.W.fnOf x x (dD st) (bJ st) (aE st) .none kV doc pm an cdv ct) ⟨us, []⟩ = pure ([p].zip us))
 (hbody : ∀ (base : Heap) (f : Addr) (cdv : Value) (A : Around) (outer : List Env) (s : Shared) (H : Hp) (E : XK), Room k (A.deeper (envOfC x (aE st) s.heap.objs.size f cdv)) ->
  ML K (fun _ : Unit => (lW CX0 P w K mg base N x (aE st) f cdv A outer s H E).nox) (bJ st) b) :
 ∃ f fd, mg x = some (.ref f) /\ (∀ (s : Shared) (u : Value), BindsTo s fd ⟨[u], []⟩ [(p, u)]) /\ ∀ base, kJ P w K mg base CX0 (k + 1) f fd [p] (spM K F) :=
 D.okL S hF hb fun base f cdv A outer s H E hr => by
  obtain ⟨t, h1, h2⟩ := (hbody base f cdv A outer s H E hr).ex
  exact ⟨t, h1 (), h2⟩
end
end L2
end
section
set_option Elab.async false
set_option linter.all false
set_option maxRecDepth 100000
set_option maxHeartbeats 4000000
namespace HT
open PySem PyProof.Rows PySem.Spec
section
variable {prog : Program} {w : World} {A : Around} {E : Value -> Shared -> Prop} {s : Shared}
theorem getItem_tuple_whole {t sl : Addr} {items : Array Value} {vl vu : Value} {lo hi : Option Int} {Q : Value -> Shared -> Prop} (ht : IsTup s.heap t items) (hs : s.heap.IsSliceOf sl vl vu .none) (pl : IsPart vl lo) (pu : IsPart vu hi)
 (hw : sIx items.size 0 lo = 0 /\ sIx items.size items.size hi = items.size) (h : Q (.ref t) s) : wpAny (model prog w) A (getItem (.ref t) (.ref sl)) Q E s := by
 obtain ⟨os, hos, hcs, hds⟩ := id hs
 have hTs : s.TypeIs (.ref sl) "slice" := ⟨os, hos, hcs⟩
 unfold getItem
 try with_reducible refine wpAny_holding ?_
 first | refine wpAny_bind (wpAny_pure ?_) | skip
 refine wpAny_bind (wpAny_sequenceKey ht.typeIs (by decide) ?_)
 refine wpAny_bind (wpAny_callSpecial?_slot (name := Str.ofString "__getitem__") ht.typeIs PyProof.Rows.slot_tuple_getitem
  (wpAny_call_entry PyProof.Rows.slot_tuple_getitem ht.typeIs entry_tuple_getitem ?_ (args_tuple_getitem _ _)))
 show wpAny _ _ (Builtin.Tuple.tupleItemsOf (.ref t) >>= _) _ _ s
 refine wpAny_bind (tupleItemsOf_ ht ?_)
 refine wpAny_bind (wpAny_typeOf hTs ?_)
 rw [if_pos (by decide)]
 refine wpAny_bind (gW hs pl pu ?_)
 have hyes : (((sIx items.size 0 lo : Nat) : Int) == 0 && (1 : Int) == 1 && (sIx items.size items.size hi - sIx items.size 0 lo) == items.size) = true := by
  rw [hw.1, hw.2]; simp
 show wpAny _ _ (if (((sIx items.size 0 lo : Nat) : Int) == 0 && (1 : Int) == 1 && (sIx items.size items.size hi - sIx items.size 0 lo) == items.size) = true then _ else _) _ _ s
 rw [if_pos hyes]
 refine wpAny_bind (m := Builtin.Tuple.tupleIsExact (.ref t)) ?_
 unfold Builtin.Tuple.tupleIsExact
 refine wpAny_bind (wpAny_typeOf ht.typeIs (wpAny_pure ?_))
 rw [if_pos (by decide)]
 exact wpAny_bind (wpAny_rule (wpAny_pure ⟨_, rfl, wpAny_pure h⟩))
end
end HT
namespace L2
open PySem PySem.Spec PyProof.Rows
def YK (K : PySem.W.Frag) : V -> Option Int -> Option Int -> Hp -> VK -> Prop := fun x lo hi H Q => ∃ a xs, x = .ref a /\ SqT K H a xs /\ (HT.sIx xs.length 0 lo = 0 /\ HT.sIx xs.length xs.length hi = xs.length) /\ Q (.ref a) H
theorem FK {X : Cx} : SlR X (YK X.K) := by
 intro pins s σ H x v vl vu lo hi sl Q I rx hs pl pu h
 obtain ⟨a, xs, rfl, hx, hw, q⟩ := h
 cases rx
 obtain ⟨its, r, ht, hz⟩ := I.tuple hx
 have hlen : its.toArray.size = xs.length := by rw [List.size_toArray]; exact r.length.symm
 refine ⟨"tuple", _, PyProof.Rows.slot_tuple_getitem.lookup, ht.typeIs, ?_⟩
 exact HT.getItem_tuple_whole ht hs pl pu (by rw [hlen]; exact hw) ⟨.ref a, H, I, rfl, q⟩
def lM {α : Type} (xs : List α) (lo hi : Option Int) : List α := (xs.drop (HT.sIx xs.length 0 lo)).take (HT.sIx xs.length xs.length hi - HT.sIx xs.length 0 lo)
abbrev OF := Ga -> Sto -> Option (Option Int × Sto)
def mD : OF := fun _ M => some (none, M)
def asI : CD -> Option Int
 | .d (.int i) => some i
 | _ => none
def vN (f : EF) : OF := fun γ M => (f γ M).bind fun r => (asI r.1).bind fun i => some (some i, r.2)
def slF (x : CD) (lo hi : Option Int) (M : Sto) : Option (CD × Sto) := match x with
 | .d (.list ds) => some (.d (.list (lM ds lo hi)), M)
 | .d (.tuple ds) => some (.d (.tuple (lM ds lo hi)), M)
 | .c i => match M[i]? with
  | some (.lst xs) => (iM (lM xs lo hi)).bind fun ds => some (.d (.list ds), M)
  | _ => none
 | _ => none
def fSl (f : EF) (l u : OF) : EF := fun γ M => (f γ M).bind fun r => (l γ r.2).bind fun p => (u γ p.2).bind fun q => slF r.1 p.1 q.1 q.2
def TL (K : PySem.W.Frag) : V -> Option Int -> Option Int -> Hp -> VK -> Prop := fun x lo hi H Q => ZJ K x lo hi H Q \/ ZF K x lo hi H Q \/ YK K x lo hi H Q
theorem kSl {X : Cx} {K : PySem.W.Frag} (h : X.K = K) : SlR X (TL K) := by subst h; exact sl_list.or (sl_tup.or FK)
section
variable {K : PySem.W.Frag}
def SO (K : PySem.W.Frag) (t : TO) (f : OF) : Prop := ∀ γ M b M', f γ M = some (b, M') -> ∀ (W : Wd) (H : Hp) (σ : St) (Q : Option Int -> Hp -> Prop), Good K W M H -> RepS K W γ σ -> (∀ W' H', W.Ext W' -> Good K W' M' H' -> Q b H') -> t σ H Q
theorem MX : SO K zZ mD := by
 intro γ M x M' hh W H σ Q G R k
 cases hh
 exact k W H (.refl _) G
theorem WJ {x : CD} {i : Int} (h : asI x = some i) : x = .d (.int i) := by
 cases x with
 | c n => cases h
 | d x => cases x <;> first | cases h; rfl | cases h
theorem OT {ta : TE} {f : EF} (a : SE K ta f) : SO K (PF ta) (vN f) := by
 intro γ M x M' hh W H σ Q G R k
 obtain ⟨⟨y, M1⟩, h1, hh⟩ := aH hh
 obtain ⟨i, h2, hh⟩ := aH hh
 cases hh
 refine a _ _ _ _ h1 W H σ _ G R fun v W1 H1 e1 G1 r1 => ?_
 have hy : y = _ := WJ h2
 subst hy
 exact ⟨i, r1, k W1 H1 e1 G1⟩
theorem RepAll.drop {H : Hp} : ∀ {ds : List PyData} {vs : List V} (n : Nat), RepAll K H ds vs -> RepAll K H (ds.drop n) (vs.drop n)
 | _, _, 0, h => h
 | [], vs, n + 1, h => by rw [show vs = [] from h]; rfl
 | d :: ds, vs, n + 1, h => by
  obtain ⟨v, r, rfl, _, h3⟩ := h
  exact RepAll.drop n h3
theorem RepAll.take {H : Hp} : ∀ {ds : List PyData} {vs : List V} (n : Nat), RepAll K H ds vs -> RepAll K H (ds.take n) (vs.take n)
 | _, _, 0, h => rfl
 | [], vs, n + 1, h => by rw [show vs = [] from h]; rfl
 | d :: ds, vs, n + 1, h => by
  obtain ⟨v, r, rfl, h2, h3⟩ := h
  exact ⟨v, r.take n, rfl, h2, RepAll.take n h3⟩
theorem RepAll.cut {H : Hp} {ds : List PyData} {vs : List V} (h : RepAll K H ds vs) (lo hi : Option Int) : RepAll K H (lM ds lo hi) (nG vs lo hi) := by
 unfold lM nG
 rw [h.length]
 exact (h.drop _).take _
theorem oW {α β : Type} {R : α -> β -> Prop} : ∀ {xs : List α} {ys : List β} (n : Nat), Paired R xs ys -> Paired R (xs.drop n) (ys.drop n)
 | _, _, 0, h => h
 | _, _, _ + 1, .nil => .nil
 | _, _, n + 1, .cons _ t => oW n t
theorem kU {α β : Type} {R : α -> β -> Prop} : ∀ {xs : List α} {ys : List β} (n : Nat), Paired R xs ys -> Paired R (xs.take n) (ys.take n)
 | _, _, 0, h => .nil
 | _, _, _ + 1, .nil => .nil
 | _, _, n + 1, .cons r t => .cons r (kU n t)
theorem CT {W : Wd} {xs : List CD} {vs : List V} (h : RepVs K W xs vs) (lo hi : Option Int) : RepVs K W (lM xs lo hi) (nG vs lo hi) := by
 unfold lM nG
 rw [Paired.len h]
 exact kU _ (oW _ h)
theorem JV {x : CD} {lo hi : Option Int} {M : Sto} {z : CD} {M' : Sto} (h : slF x lo hi M = some (z, M')) {W : Wd} {H : Hp} {v : V} {Q : VK} (G : Good K W M H) (rx : RepV K W x v) (k : ∀ w W' H', W.Ext W' -> Good K W' M' H' -> RepV K W' z w -> Q w H') : TL K v lo hi H Q := by
 unfold slF at h
 split at h
 · rename_i ds
   cases h
   obtain ⟨p, us, rfl, hq, hr⟩ := (show ∃ a us, _ = V.ref a /\ SqL K W.F a us /\ RepAll K W.F ds us from rx)
   refine .inl ⟨p, us, rfl, G.fh.seq hq, fun l hl => ?_⟩
   obtain ⟨e2, G2⟩ := G.lay (o := .lst (nG us lo hi)) hl
   exact k _ _ _ e2 G2 ⟨l, _, rfl, SqL.of aR, RepAll.same e2.ff _ _ (hr.cut lo hi)⟩
 · rename_i ds
   cases h
   obtain ⟨p, us, rfl, hq, hr⟩ := (show ∃ a us, _ = V.ref a /\ SqT K W.F a us /\ RepAll K W.F ds us from rx)
   by_cases hw : HT.sIx us.length 0 lo = 0 /\ HT.sIx us.length us.length hi = us.length
   · refine .inr (.inr ⟨p, us, rfl, G.fh.seqT hq, hw, ?_⟩)
     have e : lM ds lo hi = ds := by
      unfold lM
      rw [hr.length, hw.1, hw.2, <- hr.length]
      simp
     rw [e] at k
     exact k _ W H (.refl _) G ⟨p, us, rfl, hq, hr⟩
   · refine .inr (.inl ⟨p, us, rfl, G.fh.seqT hq, hw, fun l hl => ?_⟩)
     obtain ⟨e2, G2⟩ := G.lay (o := .tup (nG us lo hi)) hl
     exact k _ _ _ e2 G2 ⟨l, _, rfl, SqT.of aR, RepAll.same e2.ff _ _ (hr.cut lo hi)⟩
 · rename_i i
   split at h
   · rename_i xs hx
     obtain ⟨ds, h1, h⟩ := aH h
     cases h
     obtain ⟨us, hv, hr⟩ := G.lstAt hx
     rw [rx.2]
     refine .inl ⟨_, us, rfl, SqL.of hv, fun l hl => ?_⟩
     obtain ⟨e2, G2⟩ := G.lay (o := .lst (nG us lo hi)) hl
     exact k _ _ _ e2 G2 ⟨l, _, rfl, SqL.of aR, RepAll.same e2.ff _ _ (dZ h1 (CT hr lo hi))⟩
   · cases h
 · cases h
theorem WX {ta : TE} {f : EF} {tl th : TO} {l u : OF} (a : SE K ta f) (b : SO K tl l) (c : SO K th u) : SE K (tSl (TL K) ta tl th) (fSl f l u) := by
 intro γ M x M' hh W H σ Q G R k
 obtain ⟨⟨y, M1⟩, h1, hh⟩ := aH hh
 obtain ⟨⟨p, M2⟩, h2, hh⟩ := aH hh
 obtain ⟨⟨q, M3⟩, h3, hh⟩ := aH hh
 refine a _ _ _ _ h1 W H σ _ G R fun v W1 H1 e1 G1 r1 => ?_
 refine b _ _ _ _ h2 W1 H1 σ _ G1 (R.up e1) fun W2 H2 e2 G2 => ?_
 refine c _ _ _ _ h3 W2 H2 σ _ G2 (R.up (e1.trans e2)) fun W3 H3 e3 G3 => ?_
 exact JV hh G3 (r1.up (e2.trans e3)) fun w W4 H4 e4 G4 r4 => k w W4 H4 (((e1.trans e2).trans e3).trans e4) G4 r4
def intF : FN := fun xs M => match xs with
 | [.d (.int i)] => some (.d (.int i), M)
 | [.d (.bool b)] => some (.d (.int (if b then 1 else 0)), M)
 | _ => none
def tyB (T : String) (M : Sto) : CD -> Bool
 | .d (.list _) => T == "list"
 | .d (.str _) => T == "str"
 | .c i => match M[i]? with
  | some (.lst _) => T == "list"
  | some (.dk _) => T == "dict"
  | some (.dt _) => T == "dict"
  | _ => false
 | _ => false
theorem EU {T : String} {M : Sto} {x : CD} {W : Wd} {H : Hp} {v : V} (h : tyB T M x = true) (G : Good K W M H) (r : RepV K W x v) : tyV K T v H := by
 unfold tyB at h
 split at h
 · rename_i ds
   obtain ⟨p, us, rfl, hq, hr⟩ := (show ∃ a us, _ = V.ref a /\ SqL K W.F a us /\ RepAll K W.F ds us from r)
   exact .inl ⟨eq_of_beq h, us, G.fh.seq hq⟩
 · rename_i x
   rw [show v = .str x from r]
   exact eq_of_beq h
 · rename_i i
   rw [r.2]
   split at h
   · rename_i xs hx
     obtain ⟨us, hv, hr⟩ := G.lstAt hx
     exact .inl ⟨eq_of_beq h, us, SqL.of hv⟩
   · rename_i kvs hx
     obtain ⟨_, o, g2, g3⟩ := G.cs i _ hx (by intro z; cases z)
     cases o with
     | dK us => exact .inr (.inr (.inl ⟨eq_of_beq h, .inl ⟨us, g2⟩⟩))
     | _ => exact False.elim g3
   · rename_i kvs hx
     obtain ⟨_, o, g2, g3⟩ := G.cs i _ hx (by intro z; cases z)
     cases o with
     | dT us => exact .inr (.inr (.inl ⟨eq_of_beq h, .inr ⟨us, g2⟩⟩))
     | _ => exact False.elim g3
   · cases h
 · cases h
abbrev FM := CD -> List CD -> Sto -> Option (CD × Sto)
def cX (T : String) (h : FM) (f : EF) (fa : AF) : EF := fun γ M => (f γ M).bind fun r => if tyB T r.2 r.1 = true then (fa γ r.2).bind fun q => h r.1 q.1 q.2 else none
def PM (K : PySem.W.Frag) (r : V -> List V -> Hp -> VK -> Prop) (f : FM) : Prop := ∀ x xs M z M', f x xs M = some (z, M') -> ∀ (W : Wd) (H : Hp) (v : V) (vs : List V) (Q : VK), Good K W M H -> RepV K W x v -> RepVs K W xs vs -> (∀ w W' H', W.Ext W' -> Good K W' M' H' -> RepV K W' z w -> Q w H') -> r v vs H Q
theorem tV {T : String} {r : V -> List V -> Hp -> VK -> Prop} {h : FM} {ta : TE} {f : EF} {tA : TA} {fa : AF} (p : PM K r h) (a : SE K ta f) (b : SA K tA fa) : SE K (tBM K T r ta tA) (cX T h f fa) := by
 intro γ M x M' hh W H σ Q G R k
 obtain ⟨⟨y, M1⟩, h1, hh⟩ := aH hh
 by_cases hT : tyB T M1 y = true
 · have hh : (if tyB T M1 y = true then (fa γ M1).bind fun q => h y q.1 q.2 else none) = some (x, M') := hh
   rw [if_pos hT] at hh
   obtain ⟨⟨ys, M2⟩, h2, hh⟩ := aH hh
   refine a _ _ _ _ h1 W H σ _ G R fun v W1 H1 e1 G1 r1 => ⟨EU hT G1 r1, ?_⟩
   refine b _ _ _ _ h2 W1 H1 σ _ G1 (R.up e1) fun vs W2 H2 e2 G2 r2 => ?_
   exact p _ _ _ _ _ hh W2 H2 v vs Q G2 (r1.up e2) r2 fun w W3 H3 e3 G3 r3 => k w W3 H3 ((e1.trans e2).trans e3) G3 r3
 · have hh : (if tyB T M1 y = true then (fa γ M1).bind fun q => h y q.1 q.2 else none) = some (x, M') := hh
   rw [if_neg hT] at hh; cases hh
theorem GO {T : String} {r : V -> List V -> Hp -> VK -> Prop} {h : FM} {ta : TE} {f : EF} (p : PM K r h) (a : SE K ta f) : SE K (WT K T r ta) (cX T h f aI) := by
 intro γ M x M' hh W H σ Q G R k
 obtain ⟨⟨y, M1⟩, h1, hh⟩ := aH hh
 have hh : (if tyB T M1 y = true then h y [] M1 else none) = some (x, M') := hh
 by_cases hT : tyB T M1 y = true
 · rw [if_pos hT] at hh
   refine a _ _ _ _ h1 W H σ _ G R fun v W1 H1 e1 G1 r1 => ⟨EU hT G1 r1, ?_⟩
   exact p _ _ _ _ _ hh W1 H1 v [] Q G1 r1 .nil fun w W3 H3 e3 G3 r3 => k w W3 H3 (e1.trans e3) G3 r3
 · rw [if_neg hT] at hh; cases hh
def bW : FM := fun x ys M => match x, ys with
 | .c i, [y] => match M[i]? with
  | some (.lst xs) => if xs.length < sizeLine then some (.d .none, M.set i (.lst (xs ++ [y]))) else none
  | _ => none
 | _, _ => none
theorem CO : PM K AN bW := by
 intro x ys M z M' h W H v vs Q G rx rs k
 unfold bW at h
 split at h
 · rename_i i y
   split at h
   · rename_i xs hx
     by_cases hl : xs.length < sizeLine
     · rw [if_pos hl] at h
       cases h
       obtain ⟨us, hv, hr⟩ := G.lstAt hx
       rcases rs with _ | ⟨r1, _ | _⟩
       refine ⟨W.α i, us, _, rx.2, rfl, hv, by rw [<- Paired.len hr]; exact hl, ?_⟩
       exact k _ W _ (.refl _) (G.set hx (by intro q; cases q) (c' := .lst (xs ++ [y])) (show RepVs K W _ _ from Paired.app hr (.cons r1 .nil))) rfl
     · rw [if_neg hl] at h; cases h
   · cases h
 · cases h
def zF : FM := fun x ys M => match x, ys with
 | .c i, [] => match M[i]? with
  | some (.lst xs) => (xs[xs.length - 1]?).bind fun y => some (y, M.set i (.lst xs.dropLast))
  | _ => none
 | _, _ => none
theorem qS {α β : Type} {R : α -> β -> Prop} {xs : List α} {ys : List β} (h : Paired R xs ys) : Paired R xs.dropLast ys.dropLast := by
 rw [List.dropLast_eq_take, List.dropLast_eq_take, Paired.len h]
 exact kU _ h
theorem TU : PM K XM zF := by
 intro x ys M z M' h W H v vs Q G rx rs k
 unfold zF at h
 split at h
 · rename_i i
   split at h
   · rename_i xs hx
     obtain ⟨y, h1, h⟩ := aH h
     cases h
     obtain ⟨us, hv, hr⟩ := G.lstAt hx
     obtain ⟨u, hu, ru⟩ := Paired.get hr h1
     cases rs
     refine ⟨W.α i, us, u, rx.2, rfl, hv, by rw [<- Paired.len hr]; exact hu, ?_⟩
     exact k _ W _ (.refl _) (G.set hx (by intro q; cases q) (c' := .lst xs.dropLast) (show RepVs K W _ _ from qS hr)) ru
   · cases h
 · cases h
end
section
variable {ι : Type} {K : PySem.W.Frag} {X : ι -> Cx} {a b c e o : Expr} {es : List Expr} {f g h : EF} {fa : AF} {pos : Pos}
structure MO (K : PySem.W.Frag) (X : ι -> Cx) (e : Option Expr) (f : OF) : Prop where
 ex : ∃ t, (∀ i, PO (X i) e t) /\ SO K t f
theorem AY : MO K X none mD := ⟨_, fun _ => OC, MX⟩
theorem BK (x : ME K X e f) : MO K X (some e) (vN f) := by
 obtain ⟨t, x1, x2⟩ := x.ex
 exact ⟨_, fun i => MN (x1 i), OT x2⟩
theorem QG {lo hi : Option Expr} {l u : OF} {p2 : Pos} (hK : ∀ i, (X i).K = K) (x : ME K X a f) (y : MO K X lo l) (z : MO K X hi u) : ME K X (.Subscript a (.Slice lo hi none p2) pos) (fSl f l u) := by
 obtain ⟨t, x1, x2⟩ := x.ex; obtain ⟨t', y1, y2⟩ := y.ex; obtain ⟨t'', z1, z2⟩ := z.ex
 exact ⟨_, fun i => GX (kSl (hK i)) (x1 i) (y1 i) (z1 i), WX x2 y2 z2⟩
theorem gY {apos cpos : Pos} (hK : ∀ i, (X i).K = K) (x : ME K X o f) (y : MA K X [e] fa) (hb : ∀ env : Env, attributeBase o "append" env (eval o env) = eval o env := by intro _; rfl) (hl : (apos.endLine == cpos.line) = true := by rfl) :
 ME K X (.Call (.Attribute o "append" apos) [e] [] cpos) (cX "list" bW f fa) := by
 obtain ⟨t, x1, x2⟩ := x.ex; obtain ⟨u, y1, y2⟩ := y.ex
 refine ⟨_, fun i => ?_, tV CO x2 y2⟩
 have := HC PySem.F.plainAttrs_list PySem.F.slot_list_append PySem.F.type_list_append DS (x1 i) (y1 i) (apos := apos) (cpos := cpos) (hb _) (by rw [y.st.1]; rfl) hl (y.st.1 _) (y.st.2.plain _ _)
 rw [hK i] at this
 exact this
theorem RO {apos cpos : Pos} (hK : ∀ i, (X i).K = K) (x : ME K X o f) (hb : ∀ env : Env, attributeBase o "pop" env (eval o env) = eval o env := by intro _; rfl) (hl : (apos.endLine == cpos.line) = true := by rfl) :
 ME K X (.Call (.Attribute o "pop" apos) [] [] cpos) (cX "list" zF f aI) := by
 obtain ⟨t, x1, x2⟩ := x.ex
 refine ⟨_, fun i => ?_, GO TU x2⟩
 have := UY PySem.F.plainAttrs_list PySem.F.slot_list_pop PySem.F.type_list_pop UB (x1 i) (apos := apos) (cpos := cpos) (hb _) hl
 rw [hK i] at this
 exact this
end
end L2
end
section
set_option Elab.async false
set_option linter.all false
set_option maxRecDepth 100000
set_option maxHeartbeats 4000000
namespace L2
open PySem PySem.Spec PyProof.Rows
def QA (K : PySem.W.Frag) : List V -> Hp -> VK -> Prop := fun xs H Q => ∃ x d, xs = [x] /\ Rep K H d x /\ d.showable = true /\ d.depth <= 64 /\ d.shown.length <= sizeLine /\ Q (.str d.shown) H
theorem XT {X : Cx} {K : PySem.W.Frag} (hK : X.K = K) (hg : X.A.guards = some []) (hu : X.A.units + 200 < cLine) : fJ X (.builtin "repr") (QA K) := by
 subst hK
 intro pins s σ H xs us Q I r h
 obtain ⟨x, d, rfl, hd, hs, hp, hz, q⟩ := h
 obtain ⟨u, rfl, ru⟩ := vals1 r
 have big : ∀ a, u = .ref a -> wpAny (model X.prog X.w) X.A (call (.builtin "repr") [u]) (EP X pins σ Q) X.xe s := fun a e => by
  subst e
  obtain ⟨as, hr, hn⟩ := Rep.reads' I d x _ hd ru
  exact repr_of_reads' hr hs (fun _ => hn) hg (by omega) (fun _ _ e => e) (fun h' u' tk hk => ⟨.str d.shown, H, I.kept (h' := h') (t' := tk) hk, ⟨_, rfl⟩, q⟩) hz
 cases d with
 | none =>
  rw [show x = .non from hd] at ru
  cases (show u = Value.none from ru)
  exact PySem.P.repr_of_none ⟨.str _, H, I.tok _, ⟨_, rfl⟩, q⟩
 | bool b =>
  rw [show x = .bl b from hd] at ru
  cases (show u = Value.bool b from ru)
  refine PySem.P.repr_of_bool ⟨.str _, H, I.tok _, ⟨_, rfl⟩, ?_⟩
  cases b <;> exact q
 | int i =>
  rw [show x = .int i from hd] at ru
  obtain ⟨t, rfl⟩ := (show ∃ t, u = Value.int i t from ru)
  exact PySem.P.repr_of_int (of_decide_eq_true hs) ⟨.str _, H, I.tok _, ⟨_, rfl⟩, q⟩
 | str y =>
  rw [show x = .str y from hd] at ru
  obtain ⟨t, rfl⟩ := (show ∃ t, u = Value.str y t from ru)
  exact PySem.P.repr_of_str ⟨.str _, H, I.tok _, ⟨_, rfl⟩, q⟩ hz
 | list ds => obtain ⟨a, vs, e, _, _⟩ := hd; subst e; exact big a ru
 | tuple ds => obtain ⟨a, vs, e, _, _⟩ := hd; subst e; exact big a ru
 | dict ds => obtain ⟨a, vs, e, _, _⟩ := hd; subst e; exact big a ru
def jX (d : PyData) : Bool := d.showable && decide (d.depth <= 64) && decide (d.shown.length <= sizeLine)
def AD : FN := fun xs M => match xs with
 | [.d x] => if jX x = true then some (.d (.str x.shown), M) else none
 | _ => none
theorem Room.u200 {k : Nat} {A : Around} (r : Room k A) : A.units + 200 < cLine := by have := r.un; omega
end L2
end
section
set_option Elab.async false
set_option linter.all false
set_option maxRecDepth 100000
set_option maxHeartbeats 4000000
namespace L2
open PySem PySem.Spec PyProof.Rows
def keyOf : CD -> Option Key
 | .d (.int i) => some (.inl i)
 | .d (.str x) => some (.inr x)
 | _ => none
section
variable {K : PySem.W.Frag}
theorem sV {W : Wd} {x : CD} {k : Key} {v : V} (h : keyOf x = some k) (r : RepV K W x v) : v = kV k := by
 unfold keyOf at h
 split at h
 · cases h; exact r
 · cases h; exact r
 · cases h
end
end L2
end
section
set_option Elab.async false
set_option linter.all false
set_option maxRecDepth 100000
set_option maxHeartbeats 4000000
namespace L2
open PySem PySem.Spec PyProof.Rows
mutual
def wt : PyData -> Nat
 | .none => 4
 | .bool _ => 5
 | .int _ => 2000
 | .str x => (reprText x).length
 | .list xs => kO xs + 3
 | .tuple xs => kO xs + 3
 | .dict kvs => DL kvs + 3
def kO : List PyData -> Nat
 | [] => 0
 | x :: xs => wt x + 2 + kO xs
def DL : List (PyData × PyData) -> Nat
 | [] => 0
 | (k, v) :: r => wt k + wt v + 4 + DL r
end
mutual
def oks : PyData -> Bool
 | .none => true
 | .bool _ => true
 | .int i => decide (i.natAbs < 2 ^ 1900)
 | .str _ => true
 | .list xs => iG xs
 | .tuple xs => iG xs
 | .dict kvs => sH kvs
def iG : List PyData -> Bool
 | [] => true
 | x :: xs => oks x && iG xs
def sH : List (PyData × PyData) -> Bool
 | [] => true
 | (k, v) :: r => oks k && oks v && sH r
end
theorem LB {i : Int} (h : i.natAbs < 2 ^ 1900) : i.natAbs.log2 < 1900 := by
 by_cases h0 : i.natAbs = 0
 · rw [h0]; decide +kernel
 · exact (Nat.log2_lt h0).mpr h
theorem LO {i : Int} (h : i.natAbs < 2 ^ 1900) : ((toString i : String) : Str).length <= 2000 := by
 have h1 := int_text_length_le (k := 1900) (by decide) (LB h)
 show (Str.ofString (toString i)).length <= 2000
 rw [PySem.ofString_length]
 omega
mutual
theorem shown_le : ∀ d : PyData, oks d = true -> d.shown.length <= wt d
 | .none, _ => by decide
 | .bool b, _ => by cases b <;> decide
 | .int i, h => LO (of_decide_eq_true h)
 | .str x, _ => Nat.le_refl _
 | .list xs, h => by
  have := shownAll_le xs h
  have h2 := listText_len_le (PyData.shownAll xs)
  show (listText (PyData.shownAll xs)).length <= kO xs + 3
  omega
 | .tuple xs, h => by
  have := shownAll_le xs h
  have h2 := tupleText_len_le (PyData.shownAll xs)
  show (tupleText (PyData.shownAll xs)).length <= kO xs + 3
  omega
 | .dict kvs, h => by
  have := shownKv_le kvs h
  have h2 := dictText_len_le (PyData.shownKv kvs)
  show (dictText (PyData.shownKv kvs)).length <= DL kvs + 3
  omega
theorem shownAll_le : ∀ xs : List PyData, iG xs = true -> ((PyData.shownAll xs).map (·.length)).sum + 2 * (PyData.shownAll xs).length <= kO xs
 | [], _ => by simp [PyData.shownAll, kO]
 | x :: xs, h => by
  unfold iG at h
  rw [Bool.and_eq_true] at h
  have h1 := shown_le x h.1
  have h2 := shownAll_le xs h.2
  simp only [PyData.shownAll, kO, List.map_cons, List.sum_cons, List.length_cons]
  omega
theorem shownKv_le : ∀ kvs : List (PyData × PyData), sH kvs = true -> ((PyData.shownKv kvs).map (·.length)).sum + 2 * (PyData.shownKv kvs).length <= DL kvs
 | [], _ => by simp [PyData.shownKv, DL]
 | (k, v) :: r, h => by
  unfold sH at h
  rw [Bool.and_eq_true, Bool.and_eq_true] at h
  have h1 := shown_le k h.1.1
  have h2 := shown_le v h.1.2
  have h3 := shownKv_le r h.2
  have e : (PyData.shown k ++ ": " ++ PyData.shown v).length = (PyData.shown k).length + 2 + (PyData.shown v).length := by
   rw [strLen_append, strLen_append]; rfl
  simp only [PyData.shownKv, DL, List.map_cons, List.sum_cons, List.length_cons, e]
  omega
end
mutual
theorem fZ : ∀ d : PyData, oks d = true -> d.showable = true
 | .none, _ => rfl
 | .bool _, _ => rfl
 | .int i, h => by
  have h : i.natAbs < 2 ^ 1900 := of_decide_eq_true h
  refine decide_eq_true ?_
  by_cases h0 : i.natAbs = 0
  · rw [h0]; decide +kernel
  · exact Nat.lt_trans ((Nat.log2_lt h0).mpr h) (by decide)
 | .str _, _ => rfl
 | .list xs, h => showableAll_of xs h
 | .tuple xs, h => showableAll_of xs h
 | .dict kvs, h => showableKv_of kvs h
theorem showableAll_of : ∀ xs : List PyData, iG xs = true -> PyData.showableAll xs = true
 | [], _ => rfl
 | x :: xs, h => by
  unfold iG at h
  rw [Bool.and_eq_true] at h
  show (PyData.showable x && PyData.showableAll xs) = true
  rw [fZ x h.1, showableAll_of xs h.2]
  rfl
theorem showableKv_of : ∀ kvs : List (PyData × PyData), sH kvs = true -> PyData.showableKv kvs = true
 | [], _ => rfl
 | (k, v) :: r, h => by
  unfold sH at h
  rw [Bool.and_eq_true, Bool.and_eq_true] at h
  show (PyData.showable k && PyData.showable v && PyData.showableKv r) = true
  rw [fZ k h.1.1, fZ v h.1.2, showableKv_of r h.2]
  rfl
end
structure Fit (n m : Nat) (d : PyData) : Prop where
 ok : oks d = true
 wt : wt d <= n
 dp : d.depth <= m
theorem Fit.shown {n m : Nat} {d : PyData} (f : Fit n m d) (hn : n <= sizeLine := by decide) (hm : m <= 64 := by decide) : jX d = true := by
 unfold jX
 rw [fZ d f.ok, decide_eq_true (Nat.le_trans f.dp hm), decide_eq_true (Nat.le_trans (Nat.le_trans (shown_le d f.ok) f.wt) hn)]
 rfl
theorem Fit.mono {n m n' m' : Nat} {d : PyData} (f : Fit n m d) (hn : n <= n') (hm : m <= m') : Fit n' m' d := ⟨f.ok, Nat.le_trans f.wt hn, Nat.le_trans f.dp hm⟩
theorem FZ {n m : Nat} {d : PyData} {M : Sto} (f : Fit n m d) (hn : n <= sizeLine := by decide) (hm : m <= 64 := by decide) : AD [.d d] M = some (.d (.str d.shown), M) := by
 unfold AD
 dsimp only
 rw [if_pos (f.shown hn hm)]
end L2
end
section
set_option Elab.async false
set_option linter.all false
set_option maxRecDepth 100000
set_option maxHeartbeats 4000000
namespace L2
open PySem PySem.Spec PyProof.Rows
def qX (f : Str) (v : CD) : List (Str × CD) -> List (Str × CD)
 | [] => [(f, v)]
 | (g, x) :: r => if g = f then (g, v) :: r else (g, x) :: qX f v r
section
variable {K : PySem.W.Frag}
theorem vI {W : Wd} {f : Str} {x : CD} {v : V} (r : RepV K W x v) : ∀ {fs : List (Str × CD)} {us : List (Str × V)}, Paired (fun p q => p.1 = q.1 /\ RepV K W p.2 q.2) fs us -> Paired (fun p q => p.1 = q.1 /\ RepV K W p.2 q.2) (qX f x fs) (hX f v us)
 | _, _, .nil => .cons ⟨rfl, r⟩ .nil
 | (g, y) :: fs, (g', u) :: us, .cons h t => by
  obtain ⟨h1, h2⟩ := h
  have h1 : g = g' := h1
  subst h1
  unfold qX hX
  by_cases e : g = f
  · rw [if_pos e, if_pos e]; exact .cons ⟨rfl, r⟩ t
  · rw [if_neg e, if_neg e]; exact .cons ⟨rfl, h2⟩ (vI r t)
theorem sA {W : Wd} {f : Str} {x : CD} : ∀ {fs : List (Str × CD)} {us : List (Str × V)}, Paired (fun p q => p.1 = q.1 /\ RepV K W p.2 q.2) fs us -> fs.lookup f = some x -> ∃ v, us.lookup f = some v /\ RepV K W x v
 | _, _, .nil, h => by cases h
 | (g, y) :: fs, (g', u) :: us, .cons h t, e => by
  obtain ⟨h1, h2⟩ := h
  have h1 : g = g' := h1
  subst h1
  rw [List.lookup_cons] at e ⊢
  by_cases q : (f == g) = true
  · rw [q] at e ⊢; cases e; exact ⟨u, rfl, h2⟩
  · have q' : (f == g) = false := by simpa using q
    rw [q'] at e ⊢; exact sA t e
theorem Good.objAt {W : Wd} {M : Sto} {H : Hp} {i : Nat} {nm : Str} {fs : List (Str × CD)} (G : Good K W M H) (h : M[i]? = some (.obj nm fs)) : ∃ dx us, H (W.α i) = some (.ins (dU K nm) dx us) /\ Paired (fun p q => p.1 = q.1 /\ RepV K W p.2 q.2) fs us := by
 obtain ⟨_, o, h2, h3⟩ := G.cs i _ h (by intro z; cases z)
 cases o with
 | ins C dx us =>
  obtain ⟨e, p⟩ := h3
  subst e
  exact ⟨dx, us, h2, p⟩
 | _ => exact False.elim h3
theorem Good.extra {W : Wd} {M : Sto} {H : Hp} (g : Good K W M H) {p : Addr} {o : HO} (hp : H p = none) : Good K W M (upd H p o) := by
 refine ⟨fun b u hb => ?_, g.n, fun i c hi hc => ?_, g.inj⟩
 · have := g.fh b u hb
   rw [aL (aO this hp)]; exact this
 · obtain ⟨h1, o', h2, h3⟩ := g.cs i c hi hc
   exact ⟨h1, o', by rw [aL (aO h2 hp)]; exact h2, h3⟩
def objOf (nm : Str) (M : Sto) : CD -> Option (Nat × List (Str × CD))
 | .c i => match M[i]? with
  | some (.obj nm' fs) => if nm' = nm then some (i, fs) else none
  | _ => none
 | _ => none
theorem wD {nm : Str} {M : Sto} {x : CD} {i : Nat} {fs : List (Str × CD)} (h : objOf nm M x = some (i, fs)) : x = .c i /\ M[i]? = some (.obj nm fs) := by
 unfold objOf at h
 split at h
 · rename_i j
   split at h
   · rename_i nm' fs' hj
     by_cases e : nm' = nm
     · rw [if_pos e] at h; cases h; subst e; exact ⟨rfl, hj⟩
     · rw [if_neg e] at h; cases h
   · cases h
 · cases h
def lD (nm f : Str) (e : EF) : EF := fun γ M => (e γ M).bind fun r => (objOf nm r.2 r.1).bind fun p => (p.2.lookup f).bind fun v => some (v, r.2)
theorem RS {nm f : Str} {ta : TE} {e : EF} (c : Cls K (dU K nm)) (n : NoAttr K (dU K nm) f) (a : SE K ta e) : SE K (XU K ta f) (lD nm f e) := by
 intro γ M x M' hh W H σ Q G R k
 obtain ⟨⟨y, M1⟩, h1, hh⟩ := aH hh
 obtain ⟨⟨i, fs⟩, h2, hh⟩ := aH hh
 obtain ⟨v, h3, hh⟩ := aH hh
 cases hh
 refine a _ _ _ _ h1 W H σ _ G R fun u W1 H1 e1 G1 r1 => ?_
 obtain ⟨rfl, hM⟩ := wD h2
 obtain ⟨dx, us, hH, hp⟩ := G1.objAt hM
 obtain ⟨w, hw, rw'⟩ := sA hp h3
 exact ⟨W1.α i, _, dx, us, w, r1.2, hH, c, n, hw, k w W1 H1 e1 G1 rw'⟩
def rQ (nm f : Str) (eo ev : EF) : SF := fun γ M => (ev γ M).bind fun v => (eo γ v.2).bind fun o => (objOf nm o.2 o.1).bind fun p => if p.2.length < 1000 then some (.nx γ, o.2.set p.1 (.obj nm (qX f v.1 p.2))) else none
theorem VD {nm f : Str} {ta tv : TE} {eo ev : EF} (c : Cls K (dU K nm)) (n : NoAttr K (dU K nm) f) (a : SE K ta eo) (b : SE K tv ev) : SS K (YX K ta tv f) (rQ nm f eo ev) := by
 intro γ M o M' hh W H σ D G R k
 obtain ⟨⟨y, M1⟩, h1, hh⟩ := aH hh
 obtain ⟨⟨z, M2⟩, h2, hh⟩ := aH hh
 obtain ⟨⟨i, fs⟩, h3, hh⟩ := aH hh
 by_cases hl : fs.length < 1000
 · have hh : (if fs.length < 1000 then some (Out.nx γ, M2.set i (.obj nm (qX f y fs))) else none) = some (o, M') := hh
   rw [if_pos hl] at hh
   cases hh
   refine b _ _ _ _ h1 W H σ _ G R fun v W1 H1 e1 G1 r1 => ?_
   refine a _ _ _ _ h2 W1 H1 σ _ G1 (R.up e1) fun u W2 H2 e2 G2 r2 => ?_
   obtain ⟨rfl, hM⟩ := wD h3
   obtain ⟨dx, us, hH, hp⟩ := G2.objAt hM
   refine ⟨W2.α i, _, dx, us, r2.2, hH, c, n, by rw [<- Paired.len hp]; exact hl, ?_⟩
   exact k W2 _ (e1.trans e2) (G2.set hM (by intro q; cases q) (c' := .obj nm (qX f y fs)) (o' := .ins (dU K nm) dx (hX f v us)) ⟨rfl, vI (r1.up e2) hp⟩) σ (R.up (e1.trans e2))
 · have hh : (if fs.length < 1000 then some (Out.nx γ, M2.set i (.obj nm (qX f y fs))) else none) = some (o, M') := hh
   rw [if_neg hl] at hh; cases hh
def wM : CD -> Bool
 | .d .none => true
 | _ => false
def nX (nm : Str) (h : FN) (fa : AF) : EF := fun γ M => (fa γ M).bind fun r => (h (.c r.2.length :: r.1) (r.2 ++ [.obj nm []])).bind fun q => if wM q.1 = true then some (.c r.2.length, q.2) else none
theorem EV {x : CD} (h : wM x = true) : x = .d .none := by
 cases x with
 | c n => cases h
 | d x => cases x <;> first | rfl | cases h
theorem NJ {nm : Str} {h : FN} {tA : TA} {fa : AF} (b : SA K tA fa) : SE K (PV (dU K nm) (spM K h) [] E0 tA) (nX nm h fa) := by
 intro γ M x M' hh W H σ Q G R k
 obtain ⟨⟨ys, M1⟩, h1, hh⟩ := aH hh
 obtain ⟨⟨z, M2⟩, h2, hh⟩ := aH hh
 by_cases hz : wM z = true
 · have hh : (if wM z = true then some (CD.c M1.length, M2) else none) = some (x, M') := hh
   rw [if_pos hz] at hh
   cases hh
   have hz' := EV hz
   subst hz'
   refine b _ _ _ _ h1 W H σ _ G R fun vs W1 H1 e1 G1 r1 => ?_
   intro p dx hp hdx hne
   rw [List.append_nil]
   have Ga := G1.extra (o := .own p) hdx
   have hp' : (upd H1 dx (.own p)) p = none := by rw [aL (Ne.symm hne)]; exact hp
   have Gb := Ga.new hp' (c := .obj nm []) (o := .ins (dU K nm) dx []) ⟨rfl, .nil⟩
   have e2 := W1.ext_more p
   refine ⟨.c M1.length :: ys, M1 ++ [.obj nm []], W1.more p, .d .none, M', Gb, .cons G1.newV (RepVs.up r1 e2), h2, fun v W3 H3 e3 G3 r3 => ⟨r3, ?_⟩⟩
   exact k _ W3 H3 ((e1.trans e2).trans e3) G3 (G1.newV.up e3)
 · have hh : (if wM z = true then some (CD.c M1.length, M2) else none) = some (x, M') := hh
   rw [if_neg hz] at hh; cases hh
end
structure tF (P : Program) (w : World) (K : PySem.W.Frag) (mg : Str -> Option Value) (base : Heap) (k : Nat) (nm : Str) (ps : List Str) (sp : Sp) : Prop where
 ex : ∃ f fd, kJ P w K mg base CX0 k f fd ps sp /\ Mk K (dU K nm) f /\ Binds K fd ps [] /\ mg nm = some (.ref (dU K nm))
section
variable {ι : Type} {K : PySem.W.Frag} {X : ι -> Cx} {a b c e o : Expr} {es : List Expr} {f g h : EF} {fa : AF} {pos : Pos}
theorem yN {nm fl : Str} (hK : ∀ i, (X i).K = K) (hc : Cls K (dU K nm)) (hn : NoAttr K (dU K nm) fl) (x : ME K X o f) (hb : ∀ env : Env, attributeBase o fl env (eval o env) = eval o env := by intro _; rfl) : ME K X (.Attribute o fl pos) (lD nm fl f) := by
 obtain ⟨t, x1, x2⟩ := x.ex
 refine ⟨_, fun i => ?_, RS hc hn x2⟩
 have := WK (x1 i) (hb _) (pos := pos)
 rw [hK i] at this
 exact this
theorem zD {nm fl : Str} {pos' : Pos} (hK : ∀ i, (X i).K = K) (hc : Cls K (dU K nm)) (hn : NoAttr K (dU K nm) fl) (x : ME K X o f) (y : ME K X e g) (hs : ∀ i, swapsWith e (some (.Attribute o fl pos')) pos.line (X i).env = pure false := by intro _; rfl) : MS K X (.Assign [.Attribute o fl pos'] e pos) (rQ nm fl f g) := by
 obtain ⟨t, x1, x2⟩ := x.ex; obtain ⟨u, y1, y2⟩ := y.ex
 refine ⟨_, fun i => ?_, VD hc hn x2 y2⟩
 have := VZ (x1 i) (y1 i) (hs i)
 rw [hK i] at this
 exact this
theorem BN {k : Nat} {nm : Str} {ps : List Str} {F : FN} {p : Pos} (C : ∀ i, tF (X i).prog (X i).w (X i).K (X i).mg (X i).base k nm ps (spM K F)) (hK : ∀ i, (X i).K = K) (hr : ∀ i, Room (k + 1) (X i).A) (y : MA K X (e :: es) fa) (hg : ∀ i, Gl (X i) nm := by intro _; rfl) (hd : (nm == ("__debug__" : Str)) = false := by decide) :
 ME K X (.Call (.Name nm p) (e :: es) [] pos) (nX nm F fa) := by
 obtain ⟨u, y1, y2⟩ := y.ex
 refine ⟨_, fun i => ?_, NJ y2⟩
 obtain ⟨f, fd, F', M, B, m⟩ := (C i).ex
 have := NS M F' (hr i) (hg i) m B .nil PK (y1 i) hd (y.st.1 _) (y.st.2.plain _ _) (p := p) (pos := pos)
 rw [hK i] at this
 exact this
end
structure MDef (K : PySem.W.Frag) (nm m qual : Str) (st : Stmt) : Prop where
 ex : ∃ f fd, Fun K m qual st f fd /\ PySem.W.findIn K (.ref (dU K nm)) m = some (some (.ref f)) /\ PySem.W.isFn K (.ref f) = true
section
variable {P : Program} {w : World} {K : PySem.W.Frag} {mg : Str -> Option Value} {base : Heap}
theorem Fun.okQ {x qual : Str} {st : Stmt} {N ps : List Str} {k : Nat} {b : SF} {f : Addr} {fd : FuncData} (F : Fun K x qual st f fd) (S : aT N ps (aE st))
 (hbody : ∀ (f : Addr) (cdv : Value) (A : Around) (outer : List Env) (s : Shared) (H : Hp) (E : XK), Room k (A.deeper (envOfC qual (aE st) s.heap.objs.size f cdv)) ->
  ML K (fun _ : Unit => (lW CX0 P w K mg base N qual (aE st) f cdv A outer s H E).nox) (bJ st) b) : kJ P w K mg base CX0 (k + 1) f fd ps (spM K (fnF ps.length N.length b)) := by
 have len : ∀ vs H Q E, spM K (fnF ps.length N.length b) vs H Q E -> vs.length = ps.length := fun vs H Q E h => by
  obtain ⟨xs, M, W, y, M', G, R, hf, _⟩ := h
  by_cases hl : xs.length = ps.length
  · rw [<- Paired.len R]; exact hl
  · unfold fnF at hf
    rw [if_neg hl] at hf; cases hf
 refine F.ok S len fun cdv A outer s H vs Q E hr h => ?_
 obtain ⟨t, hP, hS⟩ := (hbody f cdv A outer s H E hr).ex
 refine ⟨t, hP (), ?_⟩
 obtain ⟨xs, M, W, y, M', G, R, hf, k⟩ := h
 by_cases hl : xs.length = ps.length
 · unfold fnF at hf
   rw [if_pos hl] at hf
   obtain ⟨⟨o, M1⟩, h1, hf⟩ := aH hf
   have hR : RepS K W (xs.map some ++ List.replicate (N.length - xs.length) none) (start N vs) := by
    unfold start
    rw [<- Paired.len R]
    exact Paired.app (RepVs.some R) (lL _)
   refine hS _ _ _ _ h1 W H _ _ G hR fun W1 H1 e1 G1 => ?_
   cases o with
   | rt x => cases hf; exact fun v r => k v W1 H1 e1 G1 r
   | nx γ => cases hf; exact fun σ r => k .non W1 H1 e1 G1 rfl
   | bk γ => cases hf
   | ct γ => cases hf
 · unfold fnF at hf
   rw [if_neg hl] at hf; cases hf
theorem MDef.okI {nm qual : Str} {st : Stmt} {N ps : List Str} {k : Nat} {b : SF} (D : MDef K nm "__init__" qual st) (hm : PySem.W.makesIn K (dU K nm) = true) (hk : PySem.W.keepIn K (.ref (dU K nm)) = true) (hg : mg nm = some (.ref (dU K nm))) (S : aT N ps (aE st))
 (hb : ∀ (kV doc pm : Value) (an : Option Addr) (cdv ct : Value) (us : List Value), us.length = ps.length -> bindArgs (PySem.W.fnOf "__init__" qual (dD st) (bJ st) (aE st) .none kV doc pm an cdv ct) ⟨us, []⟩ = pure (ps.zip us))
 (hbody : ∀ (f : Addr) (cdv : Value) (A : Around) (outer : List Env) (s : Shared) (H : Hp) (E : XK), Room k (A.deeper (envOfC qual (aE st) s.heap.objs.size f cdv)) ->
  ML K (fun _ : Unit => (lW CX0 P w K mg base N qual (aE st) f cdv A outer s H E).nox) (bJ st) b) : tF P w K mg base (k + 1) nm ps (spM K (fnF ps.length N.length b)) := by
 obtain ⟨f, fd, F, h1, h2⟩ := D.ex
 exact ⟨f, fd, F.okQ S hbody, ⟨hm, h1, h2, hk⟩, F.binds hb, hg⟩
end
end L2
end
section
set_option Elab.async false
set_option linter.all false
set_option maxRecDepth 100000
set_option maxHeartbeats 4000000
namespace L2
open PySem PySem.Spec PyProof.Rows
end L2
end
section
set_option Elab.async false
set_option linter.all false
set_option maxRecDepth 100000
set_option maxHeartbeats 4000000
namespace L2
open PySem PySem.W PyProof.Rows
def KS {α : Type} (lt : Nat -> Nat -> Bool) (n : Nat) : KasT α -> (α -> Prop) -> Prop
 | .ret a, Q => Q a
 | .ask i j k, Q => i < n /\ j < n /\ KS lt n (k (lt i j)) Q
theorem KS.mono {α : Type} {lt : Nat -> Nat -> Bool} {n : Nat} {Q R : α -> Prop} (m : ∀ a, Q a -> R a) : ∀ {t : KasT α}, KS lt n t Q -> KS lt n t R
 | .ret _, h => m _ h
 | .ask _ _ _, h => ⟨h.1, h.2.1, KS.mono m h.2.2⟩
theorem KS.wp {α : Type} {lt : Nat -> Nat -> Bool} {n : Nat} {Q : α -> Prop} {R : α -> Shared -> Prop} {s : Shared} {cmp : Nat -> Nat -> (Bool -> Shared -> Prop) -> Shared -> Prop}
 (hc : ∀ i j C, i < n -> j < n -> C (lt i j) s -> cmp i j C s) (m : ∀ a, Q a -> R a s) : ∀ {t : KasT α}, KS lt n t Q -> KasT.kasWp cmp t R s
 | .ret _, h => m _ h
 | .ask _ _ _, h => hc _ _ _ h.1 h.2.1 (KS.wp hc m h.2.2)
section
variable {lt : Nat -> Nat -> Bool} {n : Nat}
def Inv2 (n : Nat) (p : Array Nat) : Prop := p.Perm (List.range n).toArray
theorem Inv2.ent {p : Array Nat} (h : Inv2 n p) (h0 : 0 < n) (k : Nat) : p.getD k 0 < n := by
 rw [Array.getD_eq_getD_getElem?]
 cases e : p[k]? with
 | none => exact h0
 | some x =>
  have hm : x ∈ p := Array.mem_of_getElem? e
  have := (h.mem_iff (a := x)).mp hm
  simpa using this
theorem jU {p : Array Nat} (hp : Inv2 n p) (i j : Nat) : Inv2 n (kas_rev p i j) := (mirror_perm p i j _).trans hp
end
end L2
end
section
set_option Elab.async false
set_option linter.all false
set_option maxRecDepth 100000
set_option maxHeartbeats 4000000
namespace L2
open PySem PySem.Spec PyProof.Rows
def wH : List PyData -> Option (List Int)
 | [] => some []
 | .int n :: r => (wH r).bind fun ns => some (n :: ns)
 | _ => none
theorem mP {h : Heap} : ∀ {ds : List PyData} {us : List Value} {as : List Addr} {ns : List Int}, ReadsAll h us ds as -> wH ds = some ns -> IntsAre us ns
 | [], _, _, _, r, e => by cases r; cases e; exact .nil
 | d :: ds, _, _, _, r, e => by
  cases r with
  | cons r1 r2 =>
   cases d with
   | int n =>
    have e : (wH ds).bind (fun ns => some (n :: ns)) = some _ := e
    obtain ⟨ms, h1, h2⟩ := Option.bind_eq_some_iff.mp e
    cases h2
    cases r1
    exact .cons _ _ (mP r2 h1)
   | _ => cases e
def uH : PyData -> PyData -> Option Bool
 | .int a, .int b => some (decide (a < b))
 | .tuple xs, .tuple ys => (wH xs).bind fun ns => (wH ys).bind fun ms => some (HT.lexLt ns ms)
 | _, _ => none
def iP : List PyData -> List PyData -> Option Bool
 | [], ys => some (decide (0 < ys.length))
 | _ :: _, [] => some false
 | x :: xs, y :: ys => if PyData.eqv x y = true then iP xs ys else uH x y
def isI : PyData -> Bool
 | .int _ => true
 | _ => false
section
variable {prog : Program} {w : World} {A : Around} {E : Value -> Shared -> Prop} {s : Shared}
theorem LA {p q : Value} {x y : PyData} {as bs : List Addr} {c fl : Bool} {Q : Bool -> Shared -> Prop} (hu : A.units < cLine) (r1 : Reads s.heap p x as) (r2 : Reads s.heap q y bs) (h : uH x y = some c) (hf : fl = true -> isI x = true /\ isI y = true) (k : Q c s) :
 wpAny (model prog w) A (oneLt' fl p q) Q E s := by
 unfold uH at h
 split at h
 · rename_i a b
   cases r1; cases r2; cases h
   cases fl with
   | true => exact oneLt_int k
   | false => exact PySem.W.kat_one _ _ (lt_int k)
 · rename_i xs ys
   obtain ⟨ns, h1, h⟩ := Option.bind_eq_some_iff.mp h
   obtain ⟨ms, h2, h⟩ := Option.bind_eq_some_iff.mp h
   cases h
   cases fl with
   | true => exact absurd (hf rfl).1 (by intro z; cases z)
   | false =>
    cases r1 with
    | tuple g1 g2 g3 g4 =>
     cases r2 with
     | tuple k1 k2 k3 k4 =>
      exact PySem.W.kat_one _ _ (HT.lt_tupInts ⟨_, g1, g2, _, g3⟩ ⟨_, k1, k2, _, k3⟩ (mP g4 h1) (mP k4 h2) hu k)
 · cases h
theorem AC {b fin c : Bool} {Q : Bool -> Shared -> Prop} (hu : A.units + 64 < cLine) (k : Q c s) : ∀ (xs ys : List PyData) (us ws : List Value) (as bs : List Addr) (i : Nat), ReadsAll s.heap us xs as -> ReadsAll s.heap ws ys bs -> xs.all SeqAt.shaped = true -> ys.all SeqAt.shaped = true ->
 iP xs ys = some c -> fin = decide (us.length < ws.length) -> ((b && i == 0) = true -> xs.head?.all isI = true /\ ys.head?.all isI = true) -> PySem.W.KatLex prog w A b fin Q (us.zip ws) i s
 | [], ys, us, ws, as, bs, i, r1, r2, s1, s2, h, hf, hb => by
  cases r1
  have hl : ws.length = ys.length := by
   clear k h hf hb s2
   induction r2 using ReadsAll.rec (motive_1 := fun _ _ _ _ => True) with
   | nil => rfl
   | cons _ _ _ ih => simp [ih]
   | _ => trivial
  rw [List.zip_nil_left]
  refine PySem.W.kat_nil ?_
  have h : some (decide (0 < ys.length)) = some c := h
  cases h
  rw [hf, hl]; exact k
 | x :: xs, [], us, ws, as, bs, i, r1, r2, s1, s2, h, hf, hb => by
  cases r2
  rw [List.zip_nil_right]
  refine PySem.W.kat_nil ?_
  cases h
  rw [hf]
  simpa using k
 | x :: xs, y :: ys, us, ws, as, bs, i, r1, r2, s1, s2, h, hf, hb => by
  cases r1 with
  | cons a1 a2 =>
   cases r2 with
   | cons b1 b2 =>
    rw [List.all_cons, Bool.and_eq_true] at s1 s2
    rw [List.zip_cons_cons]
    refine PySem.W.kat_cons ?_
    refine SeqAt.eqAt_reads x y A s _ _ _ _ a1 b1 (SeqAt.canLay_of_shaped s1.1) (SeqAt.canLay_of_shaped s2.1) (SeqAt.room_of_shaped s1.1 hu) _ _ _ _ ?_
    have h : (if PyData.eqv x y = true then iP xs ys else uH x y) = some c := h
    cases e : PyData.eqv x y with
    | true =>
     rw [e, if_pos rfl] at h
     refine PySem.W.kat_yes (AC hu k xs ys _ _ _ _ (i + 1) a2 b2 s1.2 s2.2 h ?_ (fun z => ?_))
     · rw [hf]; simp
     · simp at z
    | false =>
     rw [e, if_neg Bool.false_ne_true] at h
     refine PySem.W.kat_no (LA (by omega) a1 b1 h (fun z => ?_) k)
     have := hb z
     simpa using this
end
end L2
end
section
set_option Elab.async false
set_option linter.all false
set_option maxRecDepth 100000
set_option maxHeartbeats 4000000
namespace L2
open PySem PySem.W PyProof.Rows
def LR {α : Type} (lt : Nat -> Nat -> Bool) : KasT α -> α
 | .ret a => a
 | .ask i j k => LR lt (k (lt i j))
def KA {α : Type} (n : Nat) : KasT α -> (α -> Prop) -> Prop
 | .ret a, Q => Q a
 | .ask i j k, Q => i < n /\ j < n /\ ∀ b, KA n (k b) Q
section
variable {n : Nat}
theorem KA.bind {α β : Type} {f : α -> KasT β} {Q : β -> Prop} : ∀ {t : KasT α}, KA n t (fun a => KA n (f a) Q) -> KA n (t.bind f) Q
 | .ret _, h => h
 | .ask _ _ _, h => ⟨h.1, h.2.1, fun b => KA.bind (h.2.2 b)⟩
theorem KA.ks {α : Type} {lt : Nat -> Nat -> Bool} {Q : α -> Prop} : ∀ {t : KasT α}, KA n t Q -> KS lt n t (fun a => a = LR lt t /\ Q a)
 | .ret _, h => ⟨rfl, h⟩
 | .ask i j _, h => ⟨h.1, h.2.1, KA.ks (h.2.2 (lt i j))⟩
theorem KS.run {α : Type} {lt : Nat -> Nat -> Bool} {Q : α -> Prop} : ∀ {t : KasT α}, KS lt n t Q -> Q (LR lt t)
 | .ret _, h => h
 | .ask i j k, h => KS.run (t := k (lt i j)) h.2.2
theorem zG {p : Array Nat} (hp : Inv2 n p) (h0 : 0 < n) {Q : Nat -> Prop} (q : ∀ r, Q r) : ∀ (f m : Nat), KA n (kas_asc p f m) Q
 | 0, m => by rw [kas_asc.eq_def]; exact q m
 | f + 1, m => by
  rw [kas_asc.eq_def]
  refine ⟨hp.ent h0 _, hp.ent h0 _, fun b => ?_⟩
  cases b with
  | true => exact q m
  | false => exact zG hp h0 q f (m + 1)
theorem oQ (h0 : 0 < n) {Q : Array Nat × Nat × Nat -> Prop} (k : ∀ p m q, Inv2 n p -> Q (p, m, q)) : ∀ (f : Nat) (p : Array Nat) (m q : Nat), Inv2 n p -> KA n (kas_desc f p m q) Q
 | 0, p, m, q, hp => by rw [kas_desc.eq_def]; exact k p m q hp
 | f + 1, p, m, q, hp => by
  rw [kas_desc.eq_def]
  refine ⟨hp.ent h0 _, hp.ent h0 _, fun b => ?_⟩
  cases b with
  | true =>
   dsimp only; rw [if_pos rfl]
   by_cases hq : q > 0
   · rw [if_pos hq]; exact oQ h0 k f _ _ _ (jU hp _ _)
   · rw [if_neg hq]; exact oQ h0 k f _ _ _ hp
  | false =>
   dsimp only; rw [if_neg Bool.false_ne_true]
   refine ⟨hp.ent h0 _, hp.ent h0 _, fun b => ?_⟩
   cases b with
   | true => exact k p m q hp
   | false => exact oQ h0 k f _ _ _ hp
theorem vQ (h0 : 0 < n) {p : Array Nat} {m : Nat} (hp : Inv2 n p) : KA n (kas_tail3 m n p) (fun r => Inv2 n r.2) := by
 rw [kas_tail3.eq_def]
 exact KA.bind (zG (jU hp 0 m) h0 (fun r => jU hp 0 m) _ _)
theorem nJ (h0 : 0 < n) {p : Array Nat} {m : Nat} (hp : Inv2 n p) : KA n (kas_descPart m n p) (fun r => Inv2 n r.2) := by
 rw [kas_descPart.eq_def]
 refine KA.bind (oQ h0 (fun p' m' q' a => ?_) _ _ _ _ hp)
 show KA n (if q' > 0 then kas_tail3 m' n (kas_rev p' (m' - (q' + 1)) m') else kas_tail3 m' n p') _
 by_cases hq : q' > 0
 · rw [if_pos hq]; exact vQ h0 (jU a _ _)
 · rw [if_neg hq]; exact vQ h0 a
theorem EJ (h0 : 0 < n) {p : Array Nat} (hp : Inv2 n p) : KA n (kas_count n p) (fun r => Inv2 n r.2) := by
 rw [kas_count.eq_def]
 refine KA.bind (zG hp h0 (fun r => ?_) _ _)
 by_cases e : (r == n) = true
 · rw [if_pos e]; exact hp
 · rw [if_neg e]
   by_cases g : r > 1
   · rw [if_pos g]
     refine ⟨hp.ent h0 _, hp.ent h0 _, fun b => ?_⟩
     cases b with
     | true => exact hp
     | false => exact nJ h0 (jU hp _ _)
   · rw [if_neg g]; exact nJ h0 hp
theorem pH (h0 : 0 < n) {p : Array Nat} (hp : Inv2 n p) {k : Nat} {Q : Nat -> Prop} (q : ∀ l, Q l) : ∀ (f l r : Nat), KA n (kas_place p k f l r) Q
 | 0, l, r => by rw [kas_place.eq_def]; exact q l
 | f + 1, l, r => by
  rw [kas_place.eq_def]
  show KA n (if l >= r then _ else _) Q
  by_cases g : l >= r
  · rw [if_pos g]; exact q l
  · rw [if_neg g]
    refine ⟨hp.ent h0 _, hp.ent h0 _, fun b => ?_⟩
    cases b with
    | true => exact pH h0 hp q f _ _
    | false => exact pH h0 hp q f _ _
theorem IX (h0 : 0 < n) : ∀ (f : Nat) (p : Array Nat) (k : Nat), Inv2 n p -> KA n (kas_bin f p k) (Inv2 n)
 | 0, p, k, hp => by rw [kas_bin.eq_def]; exact hp
 | f + 1, p, k, hp => by
  rw [kas_bin.eq_def]
  exact KA.bind (pH h0 hp (fun l => IX h0 f _ (k + 1) ((bubble_perm p k (k - l)).trans hp)) k 0 k)
theorem AW (h0 : 0 < n) : KA n (kas_sort n) (Inv2 n) := by
 unfold kas_sort
 have := EJ h0 (p := (List.range n).toArray) (Array.Perm.refl _)
 refine KA.bind ?_
 have mono : ∀ {α : Type} {Q R : α -> Prop} (m : ∀ a, Q a -> R a) (t : KasT α), KA n t Q -> KA n t R := by
  intro α Q R m t
  induction t with
  | ret a => exact m a
  | ask i j k ih => exact fun h => ⟨h.1, h.2.1, fun b => ih b (h.2.2 b)⟩
 refine mono (fun r a => ?_) _ this
 by_cases e : r.fst < n
 · rw [if_pos e]; exact IX h0 _ _ _ a
 · rw [if_neg e]; exact a
def fK (lt : Nat -> Nat -> Bool) (n : Nat) : List Nat := (LR lt (kas_sort n)).toList
theorem iV (lt : Nat -> Nat -> Bool) (h0 : 0 < n) : (fK lt n).Perm (List.range n) := by
 have := KS.run (KA.ks (lt := lt) (AW h0))
 simpa [fK] using Array.perm_iff_toList_perm.mp this.2
end
end L2
end
section
set_option Elab.async false
set_option linter.all false
set_option maxRecDepth 100000
set_option maxHeartbeats 4000000
namespace L2
open PySem PySem.Spec PyProof.Rows
mutual
def nI : PyData -> Bool
 | .int _ => true
 | .tuple xs => fP xs
 | _ => false
def fP : List PyData -> Bool
 | [] => true
 | x :: r => nI x && fP r
end
mutual
theorem rk {h h' : Heap} (k : ∀ b o vs n, h.get? b = some o -> o.data = .seq vs n -> h'.get? b = some o) : ∀ (d : PyData) (v : Value) (as : List Addr), nI d = true -> Reads h v d as -> Reads h' v d as
 | .int n, _, _, _, r => by cases r; exact .int _ _
 | .tuple xs, _, _, e, r => by
  cases r with
  | tuple a b c d => exact .tuple (k _ _ _ _ a c) b c (JS k xs _ _ (by unfold nI at e; exact e) d)
 | .none, _, _, e, _ => by unfold nI at e; cases e
 | .bool _, _, _, e, _ => by unfold nI at e; cases e
 | .str _, _, _, e, _ => by unfold nI at e; cases e
 | .list _, _, _, e, _ => by unfold nI at e; cases e
 | .dict _, _, _, e, _ => by unfold nI at e; cases e
theorem JS {h h' : Heap} (k : ∀ b o vs n, h.get? b = some o -> o.data = .seq vs n -> h'.get? b = some o) : ∀ (ds : List PyData) (vs : List Value) (as : List Addr), fP ds = true -> ReadsAll h vs ds as -> ReadsAll h' vs ds as
 | [], _, _, _, r => by cases r; exact .nil
 | d :: ds, _, _, e, r => by
  cases r with
  | cons a b =>
   unfold fP at e
   rw [Bool.and_eq_true] at e
   exact .cons (rk k d _ _ e.1 a) (JS k ds _ _ e.2 b)
end
theorem ReadsAll.at {h : Heap} : ∀ {ds : List PyData} {vs : List Value} {as : List Addr} (i : Nat), ReadsAll h vs ds as -> i < ds.length -> ∃ bs, Reads h (vs.getD i .none) (ds.getD i .none) bs
 | [], _, _, i, _, hi => absurd hi (Nat.not_lt_zero _)
 | d :: ds, _, _, 0, r, _ => by cases r with | cons a b => exact ⟨_, a⟩
 | d :: ds, _, _, i + 1, r, hi => by
  cases r with
  | cons a b =>
   obtain ⟨bs, x⟩ := ReadsAll.at i b (Nat.lt_of_succ_lt_succ hi)
   exact ⟨bs, x⟩
theorem ReadsAll.len {h : Heap} : ∀ {ds : List PyData} {vs : List Value} {as : List Addr}, ReadsAll h vs ds as -> vs.length = ds.length
 | [], _, _, r => by cases r; rfl
 | d :: ds, _, _, r => by
  cases r with
  | cons a b => simp [ReadsAll.len b]
section
variable {prog : Program} {w : World} {A : Around} {E : Value -> Shared -> Prop} {s : Shared}
theorem RC {b c : Bool} {p q : Value} {xs ys : List PyData} {as bs : List Addr} {Q : Bool -> Shared -> Prop} (hu : A.units + 64 < cLine) (r1 : Reads s.heap p (.tuple xs) as) (r2 : Reads s.heap q (.tuple ys) bs)
 (s1 : xs.all SeqAt.shaped = true) (s2 : ys.all SeqAt.shaped = true) (h : iP xs ys = some c) (hb : b = true -> xs.head?.all isI = true /\ ys.head?.all isI = true) (k : Q c s) : wpAny (model prog w) A (keyLt' (tuples' b) p q) Q E s := by
 cases r1 with
 | tuple a1 a2 a3 a4 =>
  cases r2 with
  | tuple b1 b2 b3 b4 =>
   refine PySem.W.kat_lt a1 a3 b1 b3 (AC hu k xs ys _ _ _ _ 0 a4 b4 s1 s2 h (by simp) (fun z => hb ?_))
   simpa using z
def iO (rows : List (List PyData)) : Bool := rows.all fun r => match r with
 | .int _ :: _ => true
 | _ => false
def jE (rows : List (List PyData)) : Bool := rows.all fun r => match r with
 | .tuple _ :: _ => true
 | _ => false
theorem TC {M : Model} {h : Heap} (n : Int) (t : Tok) : PySem.W.Looks M h (typeOf (.int n t)) (.type "int") := fun A Q E s _ q => by
 show wpAny M A (pure _) Q E s
 exact wpAny_pure q
theorem firstsI {h : Heap} : ∀ {rows : List (List PyData)} {vs : List Value} {as : List Addr}, ReadsAll h vs (rows.map .tuple) as -> iO rows = true -> ∃ fs, PySem.W.KatTups h vs fs /\ fs.length = rows.length /\ ∀ v ∈ fs, ∃ n t, v = .int n t
 | [], _, _, r, _ => by cases r; exact ⟨[], .nil, rfl, fun v hv => nomatch hv⟩
 | x :: rows, _, _, r, e => by
  unfold iO at e
  rw [List.all_cons, Bool.and_eq_true] at e
  cases r with
  | cons a b =>
   obtain ⟨fs, h1, h2, h3⟩ := firstsI b (by unfold iO; exact e.2)
   cases x with
   | nil => exact absurd e.1 (by decide)
   | cons d ds =>
    cases d with
    | int n =>
     cases a with
     | tuple g1 g2 g3 g4 =>
      rename_i o vs n'
      generalize hv : vs.toList = l at g4
      cases g4 with
      | cons q1 q2 =>
       cases q1 with
       | int _ t =>
        refine ⟨.int n t :: fs, .cons g1 g2 g3 (f := .int n t) ?_ h1, by simp [h2], ?_⟩
        · rw [<- Array.getElem?_toList, hv]; rfl
        · intro v hv'
          rcases List.mem_cons.mp hv' with z | z
          · exact ⟨_, _, z⟩
          · exact h3 v z
    | _ => exact absurd e.1 (by intro z; cases z)
end
end L2
end
section
set_option Elab.async false
set_option linter.all false
set_option maxRecDepth 100000
set_option maxHeartbeats 4000000
namespace L2
open PySem PySem.Spec PyProof.Rows
section
variable {prog : Program} {w : World} {A : Around} {E : Value -> Shared -> Prop} {s : Shared}
theorem UI {M : Model} {h : Heap} {a : Addr} {o : Obj} (g : h.get? a = some o) (c : o.cls = .type "tuple") : PySem.W.Looks M h (typeOf (.ref a)) (.type "tuple") := fun A Q E s k q => wpAny_typeOf (show s.TypeIs (.ref a) "tuple" from ⟨o, k _ _ g, c⟩) q
theorem BE {h : Heap} : ∀ {rows : List (List PyData)} {vs : List Value} {as : List Addr}, ReadsAll h vs (rows.map .tuple) as -> jE rows = true -> ∃ fs, PySem.W.KatTups h vs fs /\ fs.length = rows.length /\ ∀ v ∈ fs, ∃ a o, v = .ref a /\ h.get? a = some o /\ o.cls = .type "tuple"
 | [], _, _, r, _ => by cases r; exact ⟨[], .nil, rfl, fun v hv => nomatch hv⟩
 | x :: rows, _, _, r, e => by
  unfold jE at e
  rw [List.all_cons, Bool.and_eq_true] at e
  cases r with
  | cons a b =>
   obtain ⟨fs, h1, h2, h3⟩ := BE b (by unfold jE; exact e.2)
   cases x with
   | nil => exact absurd e.1 (by decide)
   | cons d ds =>
    cases d with
    | tuple ys =>
     cases a with
     | tuple g1 g2 g3 g4 =>
      rename_i o vs n'
      generalize hv : vs.toList = l at g4
      cases g4 with
      | cons q1 q2 =>
       cases q1 with
       | @tuple a' _ _ _ _ _ k1 k2 k3 k4 =>
        refine ⟨.ref a' :: fs, .cons g1 g2 g3 (f := .ref a') ?_ h1, by simp [h2], ?_⟩
        · rw [<- Array.getElem?_toList, hv]; rfl
        · intro v hv'
          rcases List.mem_cons.mp hv' with z | z
          · exact ⟨_, _, z, k1, k2⟩
          · exact h3 v z
    | _ => exact absurd e.1 (by intro z; cases z)
theorem DI {M : Model} {rows : List (List PyData)} {vs : List Value} {as : List Addr} {Q : SortKind -> Shared -> Prop} (r : ReadsAll s.heap vs (rows.map .tuple) as) (h0 : 0 < rows.length) (hk : iO rows = true \/ jE rows = true) (q : Q (tuples' (iO rows)) s) : wpAny M A (keyKind' vs.toArray) Q E s := by
 rcases hk with hk | hk
 · obtain ⟨fs, h1, h2, h3⟩ := firstsI r hk
   rw [hk] at q
   refine PySem.W.kat_kind (T := .type "int") h1 (by omega) (fun v hv => ?_) (by decide) q
   obtain ⟨n, t, rfl⟩ := h3 v hv
   exact TC n t
 · obtain ⟨fs, h1, h2, h3⟩ := BE r hk
   have e : iO rows = false := by
    cases rows with
    | nil => cases h0
    | cons x r =>
     unfold jE at hk
     rw [List.all_cons, Bool.and_eq_true] at hk
     cases x with
     | nil => rfl
     | cons d ds => cases d <;> first | rfl | exact absurd hk.1 (by intro z; cases z)
   rw [e] at q
   refine PySem.W.kat_kind (T := .type "tuple") h1 (by omega) (fun v hv => ?_) (by decide) q
   obtain ⟨a, o, rfl, g, c⟩ := h3 v hv
   exact UI g c
end
section
variable {X : Cx} {pins : List (Addr × Obj)} {σ : St} {H : Hp} {s : Shared} {h' : Heap}
theorem ObjOk.there {P : Program} {w : World} {H : Hp} {h : Heap} {a : Addr} {o : HO} (x : ObjOk P w H h a o) : ∃ u, h.get? a = some u := by
 induction o with
 | lst xs => obtain ⟨_, _, _, _, e⟩ := x; exact ⟨_, e⟩
 | tup xs => obtain ⟨_, _, _, _, e, _⟩ := x; exact ⟨_, e⟩
 | dK kvs => obtain ⟨_, _, _, _, o, _, _, e, _⟩ := x; exact ⟨_, e⟩
 | dT kvs => obtain ⟨_, _, _, _, o, _, _, e, _⟩ := x; exact ⟨_, e⟩
 | set S n => obtain ⟨o, _, _, _, e, _⟩ := x; exact ⟨_, e⟩
 | ins C dx fs => obtain ⟨_, _, _, e, _⟩ := x; exact ⟨_, e⟩
 | own y => exact x
 | xd fs => obtain ⟨_, ⟨_, _, _, e, _⟩, _⟩ := x; exact ⟨_, e⟩
 | rng lo hi => obtain ⟨_, _, _, e⟩ := x; exact ⟨_, e⟩
 | frz o u => exact ⟨_, x.1⟩
 | tbl ps => exact ⟨_, x⟩
 | met f x' => exact ⟨_, x⟩
 | ext φ => exact x.2.1
theorem HOk.none {P : Program} {w : World} {H : Hp} {h : Heap} {a : Addr} (x : HOk P w H h) (e : h.get? a = none) : H a = none := by
 cases q : H a with
 | none => rfl
 | some o =>
  obtain ⟨u, z⟩ := (x a o q).there
  rw [e] at z; cases z
theorem Inv.laidL {a : Addr} {o : HO} (I : Inv X pins σ H s) (k : ∀ b u, b ≠ X.env.locals -> s.heap.get? b = some u -> h'.get? b = some u) (ns : ∀ m, s.heap.Ns X.env.locals m -> h'.Ns X.env.locals m) (hp : s.heap.get? a = none) (new : ObjOk X.prog X.w (upd H a o) h' a o) :
 Inv X pins σ (upd H a o) { s with heap := h' } := by
 have hn := I.hok.none hp
 have nt : ∀ b u, H b = some u -> b ≠ X.env.locals := fun b u e z => by rw [z, I.free] at e; cases e
 refine I.step (g' := s.gens) (t' := s.toks) (d' := s.drawn) (ch := []) (fun _ z => nomatch z) (fun b o h1 _ _ e _ => k b o h1 e) (fun b o h1 _ _ e _ => ⟨o.slots, k b o h1 e⟩) (fun b o _ e n => ?_) (fun b o _ e => ?_) (fun b xs e => ?_) (fun b o u e => ?_) (fun b ps e => ⟨#[], ?_⟩) ns ?_ I.bare
 · rw [aL (fun z => by subst z; rw [hp] at e; cases e)]; exact n
 · by_cases z : b = X.env.locals
   · subst z
     obtain ⟨m, hm, _⟩ := I.loc
     obtain ⟨o', _, _, q, _⟩ := ns m hm
     exact ⟨o', q⟩
   · exact ⟨o, k b o z e⟩
 · rw [aL (aO e hn)]; exact e
 · rw [aL (aO e hn)]; exact e
 · rw [aL (aO e hn)]; simpa using e
 · intro b u e
   by_cases hb : b = a
   · subst hb; rw [aR] at e; cases e; exact new
   · rw [aL hb] at e
     refine (I.hok b u e).stay (fun c v hc q => k c v ?_ q) (fun c q => by rw [aL (aO q hn)]; exact q) fun c xs q => by rw [aL (aO q hn)]; exact q
     rcases hc with z | z
     · rw [z]; exact nt b _ e
     · exact nt c _ z
theorem BD {h : Heap} {L : Addr} {m m' : Str -> Option Value} (a : h.Ns L m) (b : h.Ns L m') : m = m' := by
 obtain ⟨o, es, ep, h1, h2, _, h3⟩ := a
 obtain ⟨o', es', ep', k1, k2, _, k3⟩ := b
 rw [h1] at k1; cases k1
 rw [h2] at k2; cases k2
 funext x
 rw [<- h3 x, k3 x]
def lO (rows : List (List PyData)) (i j : Nat) : Bool := (iP (rows.getD i []) (rows.getD j [])).getD false
theorem rR {vs : List V} {us : List Value} (r : Vals vs us) : ∀ ps : List Nat, Vals (ps.map fun i => vs.getD i .non) (ps.map fun i => us.getD i .none)
 | [] => .nil
 | p :: ps => by
  refine .cons ?_ (rR r ps)
  have go : ∀ {vs : List V} {us : List Value} (i : Nat), Vals vs us -> RelV (vs.getD i .non) (us.getD i .none) := by
   intro vs us i r
   induction r generalizing i with
   | nil => exact rfl
   | cons a b ih => cases i with
    | zero => exact a
    | succ i => exact ih i
  exact go p r
end
end L2
end
section
set_option Elab.async false
set_option linter.all false
set_option maxRecDepth 100000
set_option maxHeartbeats 4000000
namespace L2
open PySem PySem.Spec PyProof.Rows
def sortable (rows : List (List PyData)) : Bool := decide (2 <= rows.length) && decide (rows.length < 64) && rows.all (fun r => r.all SeqAt.shaped && fP r) && (iO rows || jE rows) && (List.range rows.length).all fun i => (List.range rows.length).all fun j => (iP (rows.getD i []) (rows.getD j [])).isSome
def HJ (rows : List (List PyData)) : List PyData := (fK (lO rows) rows.length).map fun i => .tuple (rows.getD i [])
theorem wJ {rows : List (List PyData)} (h : sortable rows = true) : 2 <= rows.length /\ rows.length < 64 /\ (∀ r ∈ rows, r.all SeqAt.shaped = true /\ fP r = true) /\ (iO rows = true \/ jE rows = true) /\ (∀ i j, i < rows.length -> j < rows.length -> (iP (rows.getD i []) (rows.getD j [])).isSome = true) := by
 unfold sortable at h
 rw [Bool.and_eq_true, Bool.and_eq_true, Bool.and_eq_true, Bool.and_eq_true, Bool.or_eq_true] at h
 obtain ⟨⟨⟨⟨h1, h2⟩, h3⟩, h4⟩, h5⟩ := h
 refine ⟨of_decide_eq_true h1, of_decide_eq_true h2, fun r hr => ?_, h4, fun i j hi hj => ?_⟩
 · have := List.all_eq_true.mp h3 r hr
   rwa [Bool.and_eq_true] at this
 · exact List.all_eq_true.mp (List.all_eq_true.mp h5 i (List.mem_range.mpr hi)) j (List.mem_range.mpr hj)
section
variable {K : PySem.W.Frag}
theorem RepAll.len {H : Hp} : ∀ {ds : List PyData} {vs : List V}, RepAll K H ds vs -> vs.length = ds.length
 | [], _, h => by
  have h : _ = [] := h
  rw [h]; rfl
 | d :: ds, _, h => by
  obtain ⟨v, r, rfl, _, h2⟩ := (show ∃ v r, _ = v :: r /\ Rep K H d v /\ RepAll K H ds r from h)
  simp [RepAll.len h2]
theorem vJ {H : Hp} {rows : List (List PyData)} {us : List V} (r : RepAll K H (rows.map .tuple) us) : ∀ ps : List Nat, (∀ i ∈ ps, i < rows.length) -> RepAll K H (ps.map fun i => .tuple (rows.getD i [])) (ps.map fun i => us.getD i .non)
 | [], _ => rfl
 | p :: ps, hp => by
  refine ⟨_, _, rfl, ?_, vJ r ps fun i hi => hp i (List.mem_cons_of_mem _ hi)⟩
  have hi := hp p List.mem_cons_self
  have hl := RepAll.len r
  rw [List.length_map] at hl
  have hu : us[p]? = some (us.getD p .non) := by
   rw [List.getD_eq_getElem?_getD, List.getElem?_eq_getElem (by omega)]; rfl
  obtain ⟨d, h1, h2⟩ := RepAll.get r hu
  rw [List.getElem?_map, List.getElem?_eq_getElem hi] at h1
  cases h1
  have e : rows.getD p [] = rows[p] := by rw [List.getD_eq_getElem?_getD, List.getElem?_eq_getElem hi]; rfl
  show Rep K H (.tuple (rows.getD p [])) (us.getD p .non)
  rw [e]
  exact h2
theorem WU {lt : Nat -> Nat -> Bool} {n : Nat} (h0 : 0 < n) : ∀ i ∈ fK lt n, i < n := fun i hi => List.mem_range.mp ((iV lt h0).mem_iff.mp hi)
end
theorem Room.units2 {k : Nat} {A : Around} (r : Room k A) : A.in1.in1.units + 64 < cLine := by have := r.un; show A.units + 1 + 1 + 64 < _; omega
end L2
end
section
set_option Elab.async false
set_option linter.all false
set_option maxRecDepth 100000
set_option maxHeartbeats 4000000
namespace L2
open PySem PySem.Spec PyProof.Rows
section
variable {prog : Program} {w : World} {A : Around} {E : Value -> Shared -> Prop} {s : Shared}
theorem oJ {a : Addr} {vs : List Value} {n : Nat} {P : PySem.Fin -> Shared -> Prop} (g : s.heap.get? a = some (seqObj "list" vs.toArray n)) (h2 : vs.length < 2)
 (k : P (.done (.ret .none)) { s with heap := sortedHeap s.heap a vs vs.toArray }) : wpAny (model prog w) A (Builtin.«list.sort» ⟨[.ref a], []⟩) P E s := by
 rw [list_sort_plain]
 have hz : vs.toArray.size <= sizeLine := by rw [List.size_toArray, sizeLine_eq]; omega
 refine wpAny_bind (listItems_at g rfl ?_)
 refine wpAny_bind (listUpdate_at g rfl ?_ hz (by simp))
 have g1 := get?_update_seq g (fun _ => #[])
 have hlt := Heap.lt_size g1
 refine wpAny_bind (seqEpoch_at g1 rfl ?_)
 refine wpAny_bind (wpAny_newTuple ?_ (by simpa using hz))
 refine wpAny_bind (wpAny_newList ?_)
 refine wpAny_holding ?_
 have hs : vs.toArray.size < 2 := by simpa using h2
 dsimp only
 rw [if_pos hs, if_pos hs]
 refine wpAny_bind (wpAny_pure ?_)
 refine wpAny_bind ?_
 show wpAny (model prog w) A (pure ((), SortSt.mk' general' (vs.toArray.zip vs.toArray) #[] 7 none)) _ E _
 refine wpAny_pure ?_
 dsimp only
 have g2 := Heap.get?_push_of_some { cls := .type "tuple", data := .seq vs.toArray.toList.toArray } g1
 have g3 := Heap.get?_push_of_some { cls := .type "list", data := .seq ([] : List Value).toArray } g2
 refine wpAny_bind (seqEpoch_at g3 rfl ?_)
 have hm : Array.map (fun x => x.snd) (arrOf (SortSt.mk' general' (vs.toArray.zip vs.toArray) #[] 7 none)) = vs.toArray := by
  show Array.map (fun x => x.snd) (vs.toArray.zip vs.toArray) = vs.toArray
  apply Array.ext
  · simp
  · intro i h1 h2
    simp
 rw [hm]
 refine wpAny_bind (listUpdate_at g3 rfl ?_ (by simp) (by omega))
 rw [if_neg (by simp)]
 exact wpAny_pure k
end
end L2
end
section
set_option Elab.async false
set_option linter.all false
set_option maxRecDepth 100000
set_option maxHeartbeats 4000000
namespace L2
open PySem PySem.Spec PyProof.Rows
end L2
end
section
set_option Elab.async false
set_option linter.all false
set_option maxRecDepth 100000
set_option maxHeartbeats 4000000
namespace L2
open PySem PySem.Spec PyProof.Rows
end L2
end
section
set_option Elab.async false
set_option linter.all false
set_option maxRecDepth 100000
set_option maxHeartbeats 4000000
namespace L2
open PySem PySem.Spec PyProof.Rows
end L2
end
section
set_option Elab.async false
set_option linter.all false
set_option maxRecDepth 100000
set_option maxHeartbeats 4000000
namespace L2
open PySem PySem.Spec PyProof.Rows
section
variable {X : Cx} {pins : List (Addr × Obj)} {σ : St} {H : Hp} {s : Shared}
end
end L2
end
section
set_option Elab.async false
set_option linter.all false
set_option maxRecDepth 100000
set_option maxHeartbeats 4000000
namespace L2
open PySem PySem.Spec PyProof.Rows
structure Exc where
 nm : Str
 fs : List (Str × CD)
inductive Rs where
 | v (x : CD) | x (e : Exc)
inductive ZL where
 | o (o : Out) | xc (γ : Ga) (e : Exc)
abbrev EX := Ga -> Sto -> Option (Rs × Sto)
abbrev AX := Ga -> Sto -> Option ((List CD ⊕ Exc) × Sto)
abbrev SFX := Ga -> Sto -> Option (ZL × Sto)
abbrev FX := List CD -> Sto -> Option (Rs × Sto)
section
variable (K : PySem.W.Frag)
def ExR (W : Wd) (ex : Exc) (c : Value) (dx : Option Addr) : Prop := c = .ref (dU K ex.nm) /\ RepX K W dx ex.fs
def OutOkX (EE : St -> XK) (D : Ends) (W : Wd) (H : Hp) : ZL -> Prop
 | .o o => PX K D W H o
 | .xc γ ex => ∀ σ c dx, RepS K W γ σ -> ExR K W ex c dx -> EE σ c dx H
end
def liE (f : EF) : EX := fun γ M => (f γ M).bind fun r => some (.v r.1, r.2)
def liA (f : AF) : AX := fun γ M => (f γ M).bind fun r => some (.inl r.1, r.2)
def liS (f : SF) : SFX := fun γ M => (f γ M).bind fun r => some (.o r.1, r.2)
def xCons (f : EX) (g : AX) : AX := fun γ M => (f γ M).bind fun r => match r.1 with
 | .x e => some (.inr e, r.2)
 | .v x => (g γ r.2).bind fun q => match q.1 with
  | .inr e => some (.inr e, q.2)
  | .inl xs => some (.inl (x :: xs), q.2)
def XN (f : EX) (k : CD -> Sto -> Option (Rs × Sto)) : EX := fun γ M => (f γ M).bind fun r => match r.1 with
 | .x e => some (.x e, r.2)
 | .v x => k x r.2
def PJ (f : AX) (k : List CD -> Sto -> Option (Rs × Sto)) : EX := fun γ M => (f γ M).bind fun r => match r.1 with
 | .inr e => some (.x e, r.2)
 | .inl xs => k xs r.2
def XF (h : FX) (f : AX) : EX := PJ f h
def YW (f g : SFX) : SFX := fun γ M => (f γ M).bind fun r => match r.1 with
 | .o (.nx γ') => g γ' r.2
 | o => some (o, r.2)
def WQ (f : EX) : SFX := fun γ M => (f γ M).bind fun r => match r.1 with
 | .x e => some (.xc γ e, r.2)
 | .v x => some (.o (.rt x), r.2)
def SR (f : EX) : SFX := fun γ M => (f γ M).bind fun r => match r.1 with
 | .x e => some (.xc γ e, r.2)
 | .v _ => some (.o (.nx γ), r.2)
def YG (f : EX) (g : GF) : SFX := fun γ M => (f γ M).bind fun r => match r.1 with
 | .x e => some (.xc γ e, r.2)
 | .v x => (g x γ r.2).bind fun q => some (.o (.nx q.1), q.2)
def ZW (c : TF) (f g : SFX) : SFX := fun γ M => (c γ M).bind fun r => if r.1 = true then f γ r.2 else g γ r.2
def US (nm : Str) : SFX := fun γ M => some (.xc γ ⟨nm, []⟩, M)
def fnX (ps N : Nat) (b : SFX) : FX := fun xs M => if xs.length = ps then (b (xs.map some ++ List.replicate (N - xs.length) none) M).bind fun r => match r.1 with
 | .o (.rt x) => some (.v x, r.2)
 | .o (.nx _) => some (.v (.d .none), r.2)
 | .xc _ e => some (.x e, r.2)
 | _ => none else none
def NZ : Option Nat -> Ga -> Ga
 | none, γ => γ
 | some i, γ => γ.set i none
def setG : Option Nat -> Ga -> CD -> Ga
 | none, γ, _ => γ
 | some i, γ, x => γ.set i (some x)
def XS (n : Option Nat) : Out -> Out
 | .nx γ => .nx (NZ n γ)
 | .bk γ => .bk (NZ n γ)
 | .ct γ => .ct (NZ n γ)
 | .rt x => .rt x
structure HMi where
 tab : List (Str × Bool)
 n : Option Nat
 f : SF
def QX : List HMi -> Ga -> Exc -> Sto -> Option (Out × Sto)
 | [], _, _, _ => none
 | h :: r, γ, ex, M => match h.tab.lookup ex.nm with
  | some true => (h.f (setG h.n γ (.c M.length)) (M ++ [.exc false ex.nm ex.fs])).bind fun q => some (XS h.n q.1, q.2)
  | some false => QX r γ ex M
  | none => none
def aAk (b : SFX) (hs : List HMi) : SF := fun γ M => (b γ M).bind fun r => match r.1 with
 | .o o => some (o, r.2)
 | .xc γ' ex => QX hs γ' ex r.2
section
variable {K : PySem.W.Frag} {EE : St -> XK} {ta tb : TE} {tA : TA} {t u : TS} {f g : EX} {fa : AX} {p q : SFX} {tt : TT} {ft : TF} {tg : TG} {hg : GF}
end
end L2
end
section
set_option Elab.async false
set_option linter.all false
set_option maxRecDepth 100000
set_option maxHeartbeats 4000000
namespace L2
open PySem PySem.Spec PyProof.Rows
section
variable {ι : Type}
variable {K : PySem.W.Frag} {X : ι -> Cx} {EE : ι -> St -> XK} {e a b c tg iter : Expr} {es : List Expr} {f g : EX} {fa : AX} {p q : SFX} {ft : TF} {gf : GF} {st : Stmt} {sts sts' : List Stmt} {pos : Pos}
end
section
variable {X : Cx} {K : PySem.W.Frag}
def ZI (tab : List (Str × Bool)) (nn : Option Bool) (f : EF) : EF := fun γ M => (f γ M).bind fun r => match r.1 with
 | .c i => (match r.2[i]? with
  | some (.exc _ nm _) => (tab.lookup nm).bind fun b => some (.d (.bool b), r.2)
  | _ => none)
 | .d .none => nn.bind fun b => some (.d (.bool b), r.2)
 | _ => none
end
def SJ (h : FX) (f : AF) : EF := fun γ M => (f γ M).bind fun r => (h r.1 r.2).bind fun q => match q.1 with
 | .v x => some (x, q.2)
 | .x _ => none
section
variable {K : PySem.W.Frag} {cv : Value} {a : Str} {b : Bool} {l : List (Str × Bool)}
theorem NR {nm : Str} {C : Addr} (h : PySem.W.nsIn K mainGlobals nm = some (some (.ref C))) : dU K nm = C := by unfold dU; rw [h]
end
end L2
end
section
set_option Elab.async false
set_option linter.all false
set_option maxRecDepth 100000
set_option maxHeartbeats 4000000
namespace L2
open PySem PySem.Spec PyProof.Rows
mutual
def snap : Nat -> Sto -> CD -> Option PyData
 | _, _, .d x => some x
 | 0, _, .c _ => none
 | n + 1, M, .c i => match M[i]? with
  | some (.lst xs) => (sN n M xs).bind fun ds => some (.list ds)
  | _ => none
def sN : Nat -> Sto -> List CD -> Option (List PyData)
 | _, _, [] => some []
 | n, M, x :: xs => (snap n M x).bind fun d => (sN n M xs).bind fun ds => some (d :: ds)
end
section
variable {K : PySem.W.Frag} {W : Wd} {M : Sto} {H : Hp}
theorem Good.lstAt' (G : Good K W M H) {i : Nat} {xs : List CD} (h : M[i]? = some (.lst xs)) : ∃ vs, H (W.α i) = some (.lst vs) /\ RepVs K W xs vs := by
 obtain ⟨_, o, h2, h3⟩ := G.cs i _ h (by intro z; cases z)
 cases o with
 | lst vs => exact ⟨vs, h2, h3⟩
 | _ => exact False.elim h3
mutual
theorem wF (G : Good K W M H) : ∀ (n : Nat) (x : CD) (d : PyData) (v : V), snap n M x = some d -> RepV K W x v -> Rep K H d v
 | 0, .d x, d, v, h, r => by unfold snap at h; cases h; exact Rep.same G.fh _ _ r
 | n + 1, .d x, d, v, h, r => by unfold snap at h; cases h; exact Rep.same G.fh _ _ r
 | 0, .c i, d, v, h, r => by unfold snap at h; cases h
 | n + 1, .c i, d, v, h, r => by
  unfold snap at h
  cases e : M[i]? with
  | none => rw [e] at h; cases h
  | some c =>
   rw [e] at h
   cases c with
   | lst xs =>
    obtain ⟨ds, h1, h⟩ := aH (show (sN n M xs).bind _ = _ from h)
    cases h
    obtain ⟨vs, h2, h3⟩ := G.lstAt' e
    exact ⟨W.α i, vs, r.2, SqL.of h2, sE G n xs ds vs h1 h3⟩
   | _ => cases h
theorem sE (G : Good K W M H) : ∀ (n : Nat) (xs : List CD) (ds : List PyData) (vs : List V), sN n M xs = some ds -> RepVs K W xs vs -> RepAll K H ds vs
 | _, [], ds, vs, h, r => by
  unfold sN at h
  cases h
  cases r
  rfl
 | n, x :: xs, ds, vs, h, r => by
  unfold sN at h
  obtain ⟨d, h1, h⟩ := aH h
  obtain ⟨es, h2, h⟩ := aH h
  cases h
  cases r with
  | @cons _ v _ vs' r1 r2 => exact ⟨v, vs', rfl, wF G n x d v h1 r1, sE G n xs es vs' h2 r2⟩
end
end
def iN : FN := fun xs M => match xs with
 | [x] => (snap 5 M x).bind fun d => if jX d = true then some (.d (.str d.shown), M) else none
 | _ => none
theorem UO {n : Nat} {M : Sto} {x : PyData} : snap n M (.d x) = some x := by cases n <;> simp only [snap]
theorem NX {x : PyData} {M : Sto} : iN [.d x] M = AD [.d x] M := by unfold iN AD; dsimp only; rw [UO]; rfl
theorem EL {K : PySem.W.Frag} : PN K (QA K) iN := by
 intro xs M z M' h W H vs Q G r k
 unfold iN at h
 split at h
 · rename_i x
   obtain ⟨d, h1, h⟩ := aH h
   by_cases hs : jX d = true
   · rw [if_pos hs] at h
     cases h
     rcases r with _ | ⟨r1, _ | _⟩
     have hs' := hs
     unfold jX at hs
     rw [Bool.and_eq_true, Bool.and_eq_true] at hs
     exact ⟨_, d, rfl, wF G 5 x d _ h1 r1, hs.1.1, of_decide_eq_true hs.1.2, of_decide_eq_true hs.2, k _ W H (.refl _) G rfl⟩
   · rw [if_neg hs] at h; cases h
 · cases h
theorem oS {ι : Type} {K : PySem.W.Frag} {X : ι -> Cx} (hK : ∀ i, (X i).K = K) (hg : ∀ i, (X i).A.guards = some []) (hu : ∀ i, (X i).A.units + 200 < cLine) : QN K X (.builtin "repr") iN := ⟨_, fun i => XT (hK i) (hg i) (hu i), EL⟩
end L2
end
section
set_option Elab.async false
set_option linter.all false
set_option maxRecDepth 100000
set_option maxHeartbeats 4000000
namespace L2
open PySem PySem.Spec PyProof.Rows PySem.Builtin PySem.Builtin.ObjectAttr
end L2
end
section
set_option Elab.async false
set_option linter.all false
set_option maxRecDepth 100000
set_option maxHeartbeats 4000000
namespace L2
open PySem PySem.Spec PyProof.Rows
end L2
end
section
set_option Elab.async false
set_option linter.all false
set_option maxRecDepth 100000
set_option maxHeartbeats 4000000
namespace L2
open PySem PySem.Spec PyProof.Rows
end L2
end
section
set_option Elab.async false
set_option linter.all false
set_option maxRecDepth 100000
set_option maxHeartbeats 4000000
namespace L2
open PySem PySem.Spec PyProof.Rows
end L2
end
section
set_option Elab.async false
set_option linter.all false
set_option maxRecDepth 100000
set_option maxHeartbeats 4000000
namespace L2
open PySem PySem.Spec PyProof.Rows
end L2
end
section
set_option Elab.async false
set_option linter.all false
set_option maxRecDepth 100000
set_option maxHeartbeats 4000000
namespace L2
open PySem PySem.Spec PyProof.Rows
section
variable {P : Program} {w : World} {K : PySem.W.Frag} {mg : Str -> Option Value} {base : Heap}
theorem NT {nm m qual : Str} {st : Stmt} {C f : Addr} {oc : Value} {od an : Option Addr} {osl : Array (Option Value)} {kV doc pm cdv ct : Value} (hC : dU K nm = C) (hf : PySem.W.findIn K (.ref C) m = some (some (.ref f)))
 (l : K.lookup f = some ⟨oc, od, .func (PySem.W.fnOf m qual (dD st) (bJ st) (aE st) .none kV doc pm an cdv ct), osl⟩) (c : PySem.W.codeIn K cdv qual = true) (k : PySem.W.keepIn K (.ref f) = true) (fn : PySem.W.isFn K (.ref f) = true) : MDef K nm m qual st :=
 ⟨f, _, EZ l c k, by rw [hC]; exact hf, fn⟩
end
end L2
end
section
set_option Elab.async false
set_option linter.all false
set_option maxRecDepth 100000
set_option maxHeartbeats 4000000
namespace L2
open PySem PySem.Spec PyProof.Rows
end L2
end
section
set_option Elab.async false
set_option linter.all false
set_option maxRecDepth 100000
set_option maxHeartbeats 4000000
namespace L2
open PySem PySem.Spec PyProof.Rows
abbrev KY := Key ⊕ List Key
abbrev KF := Ga -> Sto -> Option (KY × Sto)
def KRep (W : Wd) : KY -> V -> Prop
 | .inl k, v => v = kV k
 | .inr ks, v => ∃ b, v = .ref b /\ W.F b = some (.tup (ks.map kV))
theorem KRep.up {W W' : Wd} {k : KY} {v : V} (h : KRep W k v) (e : W.Ext W') : KRep W' k v := by
 cases k with
 | inl k => exact h
 | inr ks => obtain ⟨b, h1, h2⟩ := h; exact ⟨b, h1, e.ff _ _ h2⟩
section
variable {K : PySem.W.Frag}
def SK (K : PySem.W.Frag) (t : TE) (f : KF) : Prop := ∀ γ M k M', f γ M = some (k, M') -> ∀ (W : Wd) (H : Hp) (σ : St) (Q : VK), Good K W M H -> RepS K W γ σ -> (∀ v W' H', W.Ext W' -> Good K W' M' H' -> KRep W' k v -> Q v H') -> t σ H Q
def mN (f : EF) : KF := fun γ M => (f γ M).bind fun r => (keyOf r.1).bind fun k => some (.inl k, r.2)
def keysOf : List CD -> Option (List Key)
 | [] => some []
 | x :: xs => (keyOf x).bind fun k => (keysOf xs).bind fun ks => some (k :: ks)
def uP (fa : AF) : KF := fun γ M => (fa γ M).bind fun r => (keysOf r.1).bind fun ks => if ks.length <= sizeLine then some (.inr ks, r.2) else none
variable {t td ty tx tv : TE} {tA : TA} {f fo fx fv : EF} {fk : KF} {fa : AF}
theorem RW (a : SE K t f) : SK K t (mN f) := by
 intro γ M k M' hh W H σ Q G R c
 obtain ⟨⟨x, M1⟩, h1, hh⟩ := aH hh
 obtain ⟨k', h2, hh⟩ := aH hh
 cases hh
 exact a _ _ _ _ h1 W H σ _ G R fun v W1 H1 e1 G1 r1 => c v W1 H1 e1 G1 (sV h2 r1)
theorem pC {W : Wd} : ∀ {xs : List CD} {ks : List Key} {vs : List V}, keysOf xs = some ks -> RepVs K W xs vs -> vs = ks.map kV
 | [], ks, vs, h, r => by cases h; cases r; rfl
 | x :: xs, ks, vs, h, r => by
  obtain ⟨k, h1, h⟩ := aH h
  obtain ⟨ks', h2, h⟩ := aH h
  cases h
  cases r with
  | cons r1 r2 => rw [sV h1 r1, pC h2 r2]; rfl
theorem UQ (b : SA K tA fa) : SK K (MU tA) (uP fa) := by
 intro γ M k M' hh W H σ Q G R c
 obtain ⟨⟨ys, M1⟩, h1, hh⟩ := aH hh
 obtain ⟨ks, h2, hh⟩ := aH hh
 by_cases hl : ks.length <= sizeLine
 · rw [if_pos hl] at hh
   cases hh
   refine b _ _ _ _ h1 W H σ _ G R fun vs W1 H1 e1 G1 r1 => ?_
   have ev := pC h2 r1
   refine ⟨by rw [ev, List.length_map]; exact hl, fun p hp => ?_⟩
   obtain ⟨e2, G2⟩ := G1.lay (o := .tup vs) hp
   exact c _ _ _ (e1.trans e2) G2 ⟨p, rfl, by show upd W1.F p (.tup vs) p = _; rw [aR, ev]⟩
 · rw [if_neg hl] at hh; cases hh
section
variable {κ : Type} [DecidableEq κ]
def lkC (kvs : List (κ × CD)) (k : κ) : Option CD := (kvs.find? fun kv => decide (kv.1 = k)).map (·.2)
def putD (kvs : List (κ × CD)) (k : κ) (v : CD) : List (κ × CD) :=
 if (kvs.any fun kv => decide (kv.1 = k)) = true then kvs.map (fun kv => if kv.1 = k then (kv.1, v) else kv) else kvs ++ [(k, v)]
abbrev PKV (K : PySem.W.Frag) (W : Wd) (kvs : List (κ × CD)) (us : List (κ × V)) : Prop := Paired (fun p q => p.1 = q.1 /\ RepV K W p.2 q.2) kvs us
theorem tJ {W : Wd} {k : κ} : ∀ {kvs : List (κ × CD)} {us : List (κ × V)}, PKV K W kvs us -> yB K W (lkC kvs k) (iT us k)
 | _, _, .nil => True.intro
 | _, _, .cons (a := p) (b := q) (l₁ := ps) (l₂ := qs) r1 r2 => by
  by_cases h : p.1 = k
  · have h' : q.1 = k := r1.1 ▸ h
    rw [show lkC (p :: ps) k = some p.2 by simp [lkC, List.find?_cons, h], show iT (q :: qs) k = some q.2 by simp [iT, List.find?_cons, h']]
    exact r1.2
  · have h' : ¬ q.1 = k := r1.1 ▸ h
    rw [show lkC (p :: ps) k = lkC ps k by simp [lkC, List.find?_cons, h], show iT (q :: qs) k = iT qs k by simp [iT, List.find?_cons, h']]
    exact tJ r2
theorem vX {W : Wd} {k : κ} : ∀ {kvs : List (κ × CD)} {us : List (κ × V)}, PKV K W kvs us -> (kvs.any fun kv => decide (kv.1 = k)) = us.any fun kv => decide (kv.1 = k)
 | _, _, .nil => rfl
 | _, _, .cons r1 r2 => by rw [List.any_cons, List.any_cons, vX r2, r1.1]
theorem xB {W : Wd} {k : κ} {x : CD} {v : V} (rv : RepV K W x v) : ∀ {kvs : List (κ × CD)} {us : List (κ × V)}, PKV K W kvs us -> PKV K W (kvs.map fun kv => if kv.1 = k then (kv.1, x) else kv) (us.map fun kv => if kv.1 = k then (kv.1, v) else kv)
 | _, _, .nil => .nil
 | _, _, .cons (a := p) (b := q) r1 r2 => by
  rw [List.map_cons, List.map_cons]
  refine .cons ?_ (xB rv r2)
  by_cases h : p.1 = k
  · rw [if_pos h, if_pos (r1.1 ▸ h)]; exact ⟨r1.1, rv⟩
  · rw [if_neg h, if_neg (r1.1 ▸ h)]; exact r1
theorem nF {W : Wd} {k : κ} {x : CD} {v : V} {kvs : List (κ × CD)} {us : List (κ × V)} (r : PKV K W kvs us) (rv : RepV K W x v) : PKV K W (putD kvs k x) (putK us k v) := by
 unfold putD putK
 rw [vX r]
 split
 · exact xB rv r
 · exact Paired.app r (.cons ⟨rfl, rv⟩ .nil)
end
def atD (M : Sto) : CD -> KY -> Option (Option CD)
 | .c i, .inl k => match M[i]? with
  | some (.dk kvs) => some (lkC kvs k)
  | _ => none
 | .c i, .inr ks => match M[i]? with
  | some (.dt kvs) => some (lkC kvs ks)
  | _ => none
 | _, _ => none
def oF (M : Sto) : CD -> KY -> CD -> Option Sto
 | .c i, .inl k, x => match M[i]? with
  | some (.dk kvs) => if kvs.length < sizeLine then some (M.set i (.dk (putD kvs k x))) else none
  | _ => none
 | .c i, .inr ks, x => match M[i]? with
  | some (.dt kvs) => if kvs.length < sizeLine then some (M.set i (.dt (putD kvs ks x))) else none
  | _ => none
 | _, _, _ => none
theorem Good.dkAt {W : Wd} {M : Sto} {H : Hp} {i : Nat} {kvs : List (Key × CD)} (G : Good K W M H) (h : M[i]? = some (.dk kvs)) : ∃ us, H (W.α i) = some (.dK us) /\ PKV K W kvs us := by
 obtain ⟨_, o, h2, h3⟩ := G.cs i _ h (by intro z; cases z)
 cases o <;> first | exact ⟨_, h2, h3⟩ | exact False.elim h3
theorem Good.dtAt {W : Wd} {M : Sto} {H : Hp} {i : Nat} {kvs : List (List Key × CD)} (G : Good K W M H) (h : M[i]? = some (.dt kvs)) : ∃ us, H (W.α i) = some (.dT us) /\ PKV K W kvs us := by
 obtain ⟨_, o, h2, h3⟩ := G.cs i _ h (by intro z; cases z)
 cases o <;> first | exact ⟨_, h2, h3⟩ | exact False.elim h3
theorem BF {W : Wd} {M : Sto} {H : Hp} {x : CD} {k : KY} {r : Option CD} {v y : V} (G : Good K W M H) (h : atD M x k = some r) (rx : RepV K W x v) (ry : KRep W k y) : ∃ a o, v = .ref a /\ DGet H a y o /\ yB K W r o := by
 unfold atD at h
 split at h
 · rename_i i k'
   split at h
   · rename_i kvs hk
     cases h
     obtain ⟨us, h1, h2⟩ := G.dkAt hk
     refine ⟨_, _, rx.2, ?_, tJ h2⟩
     rw [show y = kV k' from ry]
     exact DGet.k h1
   · cases h
 · rename_i i ks
   split at h
   · rename_i kvs hk
     cases h
     obtain ⟨us, h1, h2⟩ := G.dtAt hk
     obtain ⟨b, rfl, hb⟩ := ry
     exact ⟨_, _, rx.2, DGet.t h1 (G.fh _ _ hb), tJ h2⟩
   · cases h
 · cases h
theorem wX {W : Wd} {M M' : Sto} {H : Hp} {x z : CD} {k : KY} {v y u : V} (G : Good K W M H) (h : oF M x k z = some M') (rx : RepV K W x v) (ry : KRep W k y) (rz : RepV K W z u) : ∃ a H', v = .ref a /\ DPut H a y u H' /\ Good K W M' H' := by
 unfold oF at h
 split at h
 · rename_i z' i k'
   split at h
   · rename_i kvs hk
     by_cases hl : kvs.length < sizeLine
     · rw [if_pos hl] at h
       cases h
       obtain ⟨us, h1, h2⟩ := G.dkAt hk
       refine ⟨_, _, rx.2, ?_, G.set hk (by intro q; cases q) (o' := .dK (putK us k' u)) (nF h2 rz)⟩
       rw [show y = kV k' from ry]
       exact DPut.k h1 (by rw [<- Paired.len h2]; exact hl)
     · rw [if_neg hl] at h; cases h
   · cases h
 · rename_i z' i ks
   split at h
   · rename_i kvs hk
     by_cases hl : kvs.length < sizeLine
     · rw [if_pos hl] at h
       cases h
       obtain ⟨us, h1, h2⟩ := G.dtAt hk
       obtain ⟨b, rfl, hb⟩ := ry
       exact ⟨_, _, rx.2, DPut.t h1 (G.fh _ _ hb) (by rw [<- Paired.len h2]; exact hl), G.set hk (by intro q; cases q) (o' := .dT (putK us ks u)) (nF h2 rz)⟩
     · rw [if_neg hl] at h; cases h
   · cases h
 · cases h
def uC : EF := fun _ M => some (.c M.length, M ++ [.dk []])
def tO : EF := fun _ M => some (.c M.length, M ++ [.dt []])
def oK (neg : Bool) (fk : KF) (fo : EF) : EF := fun γ M => (fk γ M).bind fun k => (fo γ k.2).bind fun o => (atD o.2 o.1 k.1).bind fun r => some (.d (.bool (if neg then !r.isSome else r.isSome)), o.2)
def mG (fo : EF) (fk : KF) (fv : EF) : SF := fun γ M => (fv γ M).bind fun v => (fo γ v.2).bind fun o => (fk γ o.2).bind fun k => (oF k.2 o.1 k.1 v.1).bind fun M' => some (.nx γ, M')
theorem HB : SE K IK uC := by
 intro γ M x M' hh W H σ Q G R k
 cases hh
 exact fun p hp => k _ (W.more p) _ (W.ext_more p) (G.new hp (c := .dk []) (o := .dK []) .nil) G.newV
theorem FR : SE K EM tO := by
 intro γ M x M' hh W H σ Q G R k
 cases hh
 exact fun p hp => k _ (W.more p) _ (W.ext_more p) (G.new hp (c := .dt []) (o := .dT []) .nil) G.newV
theorem rK {W : Wd} {r : Option CD} {o : Option V} (h : yB K W r o) : o.isSome = r.isSome := by
 cases r <;> cases o <;> first | rfl | exact False.elim h
theorem VY (b : SK K ty fk) (a : SE K td fo) : SE K (WO ty td) (oK false fk fo) := by
 intro γ M x M' hh W H σ Q G R k
 obtain ⟨⟨ky, M1⟩, h1, hh⟩ := aH hh
 obtain ⟨⟨o, M2⟩, h2, hh⟩ := aH hh
 obtain ⟨r, h3, hh⟩ := aH hh
 cases hh
 refine b _ _ _ _ h1 W H σ _ G R fun y W1 H1 e1 G1 r1 => a _ _ _ _ h2 W1 H1 σ _ G1 (R.up e1) fun v W2 H2 e2 G2 r2 => ?_
 obtain ⟨p, ov, ev, g, ro⟩ := BF G2 h3 r2 (r1.up e2)
 refine ⟨p, ov, ev, g, k _ W2 H2 (e1.trans e2) G2 ?_⟩
 show _ = V.bl r.isSome
 rw [rK ro]
theorem BX (b : SK K ty fk) (a : SE K td fo) : SE K (AO ty td) (oK true fk fo) := by
 intro γ M x M' hh W H σ Q G R k
 obtain ⟨⟨ky, M1⟩, h1, hh⟩ := aH hh
 obtain ⟨⟨o, M2⟩, h2, hh⟩ := aH hh
 obtain ⟨r, h3, hh⟩ := aH hh
 cases hh
 refine b _ _ _ _ h1 W H σ _ G R fun y W1 H1 e1 G1 r1 => a _ _ _ _ h2 W1 H1 σ _ G1 (R.up e1) fun v W2 H2 e2 G2 r2 => ?_
 obtain ⟨p, ov, ev, g, ro⟩ := BF G2 h3 r2 (r1.up e2)
 refine ⟨p, ov, ev, g, k _ W2 H2 (e1.trans e2) G2 ?_⟩
 show _ = V.bl (!r.isSome)
 rw [rK ro]
theorem NV (a : SE K td fo) (b : SK K ty fk) (c : SE K tv fv) : SS K (QB td ty tv) (mG fo fk fv) := by
 intro γ M o M' hh W H σ D G R k
 obtain ⟨⟨z, M1⟩, h1, hh⟩ := aH hh
 obtain ⟨⟨x, M2⟩, h2, hh⟩ := aH hh
 obtain ⟨⟨ky, M3⟩, h3, hh⟩ := aH hh
 obtain ⟨M4, h4, hh⟩ := aH hh
 cases hh
 refine c _ _ _ _ h1 W H σ _ G R fun u W1 H1 e1 G1 r1 => a _ _ _ _ h2 W1 H1 σ _ G1 (R.up e1) fun v W2 H2 e2 G2 r2 => b _ _ _ _ h3 W2 H2 σ _ G2 (R.up (e1.trans e2)) fun y W3 H3 e3 G3 r3 => ?_
 obtain ⟨p, H4, ev, g, G4⟩ := wX G3 h4 (r2.up e3) r3 ((r1.up e2).up e3)
 exact ⟨p, H4, ev, g, k W3 H4 ((e1.trans e2).trans e3) G4 σ (R.up ((e1.trans e2).trans e3))⟩
end
end L2
end
section
set_option Elab.async false
set_option linter.all false
set_option maxRecDepth 100000
set_option maxHeartbeats 4000000
namespace L2
open PySem PySem.Spec PyProof.Rows
section
variable {ι : Type}
structure MK (K : PySem.W.Frag) (X : ι -> Cx) (e : Expr) (f : KF) : Prop where
 ex : ∃ t, (∀ i, PE (X i) e t) /\ SK K t f
variable {K : PySem.W.Frag} {X : ι -> Cx} {e o i a b : Expr} {es : List Expr} {f g fx : EF} {fk : KF} {fa : AF} {pos : Pos}
theorem mk_one (x : ME K X e f) : MK K X e (mN f) := by
 obtain ⟨t, x1, x2⟩ := x.ex
 exact ⟨_, x1, RW x2⟩
theorem xZ {k : Nat} (x : MA K X es fa) : MK K X (.Tuple es k pos) (uP fa) := by
 obtain ⟨t, x1, x2⟩ := x.ex
 exact ⟨_, fun i => zJ (x1 i), UQ x2⟩
theorem JT : ME K X (.Dict [] [] pos) uC := ⟨_, fun _ => GQ, HB⟩
theorem JO : ME K X (.Dict [] [] pos) tO := ⟨_, fun _ => FD, FR⟩
theorem SQ (hu : ∀ j, (X j).A.units + 1 < cLine) (y : MK K X i fk) (x : ME K X o f) (hm : behindInMarks .In o = false := by rfl) : MT K X (.Compare i [.In] [o] pos) (gB (oK false fk f)) := by
 obtain ⟨t, x1, x2⟩ := x.ex; obtain ⟨u, y1, y2⟩ := y.ex
 exact ⟨_, fun j => IP (SH (hu j) (y1 j) (x1 j)) hm, OK (VY y2 x2)⟩
theorem sI (hu : ∀ j, (X j).A.units + 1 < cLine) (y : MK K X i fk) (x : ME K X o f) (hm : behindInMarks .NotIn o = false := by rfl) : MT K X (.Compare i [.NotIn] [o] pos) (gB (oK true fk f)) := by
 obtain ⟨t, x1, x2⟩ := x.ex; obtain ⟨u, y1, y2⟩ := y.ex
 exact ⟨_, fun j => IP (DG (hu j) (y1 j) (x1 j)) hm, OK (BX y2 x2)⟩
theorem zQ {pos' : Pos} (hu : ∀ j, (X j).A.units + 1 < cLine) (x : ME K X o f) (y : MK K X i fk) (z : ME K X e g) (hs : ∀ j, swapsWith e (some (.Subscript o i pos')) pos.line (X j).env = pure false := by intro _; rfl) : MS K X (.Assign [.Subscript o i pos'] e pos) (mG f fk g) := by
 obtain ⟨t, x1, x2⟩ := x.ex; obtain ⟨u, y1, y2⟩ := y.ex; obtain ⟨v, z1, z2⟩ := z.ex
 exact ⟨_, fun j => NM (hu j) (x1 j) (y1 j) (z1 j) (hs j), NV x2 y2 z2⟩
end
end L2
end
section
set_option Elab.async false
set_option linter.all false
set_option maxRecDepth 100000
set_option maxHeartbeats 4000000
namespace PySem
open Sem (wp)
open AutoSeq1 (wpAny_loadPart')
section
variable {prog : Program} {w : World} {A : Around} {E : Value -> Shared -> Prop} {s : Shared}
theorem qU {it l : Addr} {i : Nat} {items} {x : Value} {Q : Value -> Shared -> Prop} (hit : s.heap.IsTupleIter it l i) (hl : s.heap.IsTuple l items) (hx : items[i]? = some x)
 (hQ : ∀ h', h'.IsTupleIter it l (i + 1) -> Heap.SameBut it s.heap h' -> Q x { s with heap := h' }) : wpAny (model prog w) A (Builtin.SmallTypes.nextOf (.ref it)) Q E s := by
 obtain ⟨o, ho, hc, hd⟩ := id hit
 obtain ⟨ol, hol, _, nl, hdl⟩ := hl
 unfold Builtin.SmallTypes.nextOf
 refine wpAny_bind (wpAny_callSpecial?_slot (name := Str.ofString "__next__") hit.typeIs F.slot_tuple_iterator_next (wpAny_call_entry F.slot_tuple_iterator_next hit.typeIs F.entry_tuple_iterator_next ?_ (F.args_tuple_iterator_next_1 _)))
 show wpAny _ _ (field (.ref it) 0 >>= _) _ _ s
 refine wpAny_bind (wpAny_field ho hd (x := .ref l) rfl ?_)
 show wpAny _ _ (if (Value.ref l == Value.none) = true then _ else _) _ _ s
 rw [if_neg (show ¬ ((Value.ref l == Value.none) = true) from Bool.false_ne_true)]
 show wpAny _ _ (field (.ref it) 1 >>= _) _ _ s
 refine wpAny_bind (wpAny_field ho hd (x := .int i 0) rfl ?_)
 show wpAny _ _ (seqItems? (.ref l) >>= _) _ _ s
 refine wpAny_bind (wpAny_seqItems hol hdl ?_)
 simp only [Int.toNat_natCast, hx]
 refine wpAny_bind (wpAny_setField ho hd (by simp) (wpAny_pure ⟨x, rfl, wpAny_pure (hQ _ ?_ (Heap.SameBut.update ..))⟩))
 exact ⟨_, Heap.get?_update_self _ ho (Obj.isFreed_of_fields (Obj.data_mapFields hd _)), (Obj.cls_mapFields ..).trans hc, by rw [Obj.data_mapFields hd]; simp [rawInt]⟩
theorem mM {it l : Addr} {i : Nat} {items} {Q : Value -> Shared -> Prop} (hh : A.handled = none) (hit : s.heap.IsTupleIter it l i) (hl : s.heap.IsTuple l items) (hx : items[i]? = none)
 (hE : ∀ h' e, Heap.ExtBut it s.heap h' -> (∃ o, h'.get? e = some o /\ o.cls = .type "StopIteration") -> E (.ref e) { s with heap := h' }) : wpAny (model prog w) A (Builtin.SmallTypes.nextOf (.ref it)) Q E s := by
 obtain ⟨o, ho, hc, hd⟩ := id hit
 obtain ⟨ol, hol, _, nl, hdl⟩ := hl
 unfold Builtin.SmallTypes.nextOf
 refine wpAny_bind (wpAny_callSpecial?_slot (name := Str.ofString "__next__") hit.typeIs F.slot_tuple_iterator_next (wpAny_call_entry F.slot_tuple_iterator_next hit.typeIs F.entry_tuple_iterator_next ?_ (F.args_tuple_iterator_next_1 _)))
 show wpAny _ _ (field (.ref it) 0 >>= _) _ _ s
 refine wpAny_bind (wpAny_field ho hd (x := .ref l) rfl ?_)
 show wpAny _ _ (if (Value.ref l == Value.none) = true then _ else _) _ _ s
 rw [if_neg (show ¬ ((Value.ref l == Value.none) = true) from Bool.false_ne_true)]
 show wpAny _ _ (field (.ref it) 1 >>= _) _ _ s
 refine wpAny_bind (wpAny_field ho hd (x := .int i 0) rfl ?_)
 show wpAny _ _ (seqItems? (.ref l) >>= _) _ _ s
 refine wpAny_bind (wpAny_seqItems hol hdl ?_)
 simp only [Int.toNat_natCast, hx]
 refine wpAny_bind (wpAny_rule (wpAny_bind (wpAny_setField ho hd (by simp) ?_)))
 show wpAny _ _ (newExc (.type "StopIteration") [] >>= _) _ _ _
 refine wpAny_bind ?_
 simp only [newExc, newTuple]
 refine wpAny_bind (wpAny_newObj_type ?_ (by size_fits))
 refine wpAny_bind (m := firstArgMember _ _) (wpAny_of_eq (a := Value.none) (by first | rfl | (simp only [firstArgMember]; rfl)) ?_)
 refine wpAny_newObj_type ?_ (by size_fits)
 simp only [raiseNew]
 refine wpAny_bind (wpAny_handled ?_)
 first | rw [show A.in1.handled = none from hh] | rw [hh]
 refine wpAny_bind (wpAny_pure (wpAny_throw ?_))
 exact hE _ _ (((Heap.SameBut.update ..).extBut.push _).push _) ⟨_, Heap.get?_push_size _ rfl, rfl⟩
end
theorem DQ {prog : Program} {w : World} {A : Around} (hh : A.handled = none) (it l : Addr) (hne : l ≠ it) (items : Array Value) :
 Draws prog w A it [it, l] items.size (fun i v => items[i]? = some v) (fun i h => h.IsTupleIter it l i /\ h.IsTuple l items) where
 live := fun _ _ st => let ⟨o, ho, _⟩ := st.1; ⟨o, ho⟩
 frame := fun _ _ _ st hk => ⟨st.1.at fun o e => hk it (by simp) o e, let ⟨o, ho, r⟩ := st.2; ⟨o, hk l (by simp) o ho, r⟩⟩
 item := fun i s Q E hi st hQ => by
  refine qU st.1 st.2 (x := items[i]) (by simp [hi]) fun h' hit' hs' => ?_
  exact hQ _ h' s.toks (by simp [hi]) ⟨hit', let ⟨o, ho, r⟩ := st.2; ⟨o, (hs'.2 l hne).trans ho, r⟩⟩ hs'
 done := fun s Q E st hE => mM hh st.1 st.2 (by simp) hE
theorem qB (l : Addr) (items : Array Value) (n : Nat) (dct : Option Addr) (sl : Array (Option Value)) :
 Meets (Builtin.«enumerate.__new__» ⟨[.type "enumerate", .ref l], []⟩) (fun _ R s => s.heap.get? l = some { cls := .type "tuple", dict := dct, data := .seq items n, slots := sl } /\
  R (.ok (.ret (.ref (s.heap.push { cls := .type "tuple_iterator", data := .fields #[.ref l, .int 0 0] }).objs.size)))
   { s with heap := (s.heap.push { cls := .type "tuple_iterator", data := .fields #[.ref l, .int 0 0] }).push { cls := .type "enumerate", data := .fields #[.none, .bool false, .ref s.heap.objs.size, rawInt 0, .none, .none] } }) :=
 .of_wp fun prog w A R s h => by
  obtain ⟨hp, g, d, tk, os⟩ := s; obtain ⟨hl, h⟩ := h
  have hsub := sub_enumerate
  have hL : Heap.IsTuple (Shared.heap ⟨hp, g, d, tk, os⟩) l items := ⟨_, hl, rfl, n, rfl⟩
  wp_walk using wpAny_loadPart' hl
  refine wpAny_stack_any fun st => wpAny_pure ?_
  split
  · rename_i c _ _ _ _ _
    cases (c == Value.type "enumerate")
    · wp_walk using wpAny_loadPart' hl, wpAny_pyIter_tuple hL
      exact ⟨_, rfl, h⟩
    · wp_walk using wpAny_loadPart' hl, wpAny_pyIter_tuple hL
      exact ⟨_, rfl, h⟩
  · wp_walk using wpAny_loadPart' hl, wpAny_pyIter_tuple hL
    exact ⟨_, rfl, h⟩
section
variable {prog : Program} {w : World} {A : Around} {E : Value -> Shared -> Prop} {s : Shared}
theorem qW {l : Addr} {items : Array Value} {Q : Value -> Shared -> Prop} (hL : s.heap.IsTuple l items)
 (h : ∀ h', IsEnum h' (s.heap.objs.size + 1) s.heap.objs.size 0 .none -> h'.IsTupleIter s.heap.objs.size l 0 -> h'.objs.size = s.heap.objs.size + 2 ->
  (∀ b o, s.heap.get? b = some o -> h'.get? b = some o) -> Q (.ref (s.heap.objs.size + 1)) { s with heap := h' }) :
 wpAny (model prog w) A (call (.type "enumerate") [.ref l]) Q E s := by
 obtain ⟨⟨c, dct, dt, sl⟩, hl, hc, n, hd⟩ := hL
 replace hc : c = .type "tuple" := hc
 replace hd : dt = .seq items n := hd
 subst hc hd
 refine callType_new F.called_enumerate (by decide) (F.typeCall_enumerate_1 _) (F.newCall_enumerate_1 _) (fun obj => F.args_object_init_2 obj _) F.entry_enumerate_new
  (qB l items n dct sl) ⟨hl, ?_⟩
 have hz : (s.heap.push { cls := .type "tuple_iterator", data := .fields #[.ref l, .int 0 0] }).objs.size = s.heap.objs.size + 1 := Heap.size_push ..
 show _ /\ _
 rw [hz]
 have he : IsEnum ((s.heap.push { cls := .type "tuple_iterator", data := .fields #[.ref l, .int 0 0] }).push
  { cls := .type "enumerate", data := .fields #[.none, .bool false, .ref s.heap.objs.size, rawInt 0, .none, .none] }) (s.heap.objs.size + 1) s.heap.objs.size 0 .none := by
  have := Heap.get?_push_size (s.heap.push { cls := .type "tuple_iterator", data := .fields #[.ref l, .int 0 0] })
   (o := { cls := .type "enumerate", data := .fields #[.none, .bool false, .ref s.heap.objs.size, rawInt 0, .none, .none] }) rfl
  rw [hz] at this; exact this
 refine ⟨⟨_, he, rfl⟩, h _ he ⟨_, Heap.get?_push_of_some _ (Heap.get?_push_size _ rfl), rfl, rfl⟩ (by rw [Heap.size_push, hz]) fun b o x => Heap.get?_push_of_some _ (Heap.get?_push_of_some _ x)⟩
end
end PySem
namespace L2
open PySem PySem.Spec PyProof.Rows
section
variable {X : Cx} {pins : List (Addr × Obj)} {σ : St} {H : Hp} {s : Shared} {h' : Heap}
theorem Inv.turnLay {fp : List Addr} {a : Addr} {o : HO} {t' : Nat} (I : Inv X pins σ H s) (hf : ∀ b ∈ fp, kI X pins H b) (k : ∀ b u, b ∉ fp -> s.heap.get? b = some u -> h'.get? b = some u) (hp : s.heap.objs.size <= a) (new : ObjOk X.prog X.w (upd H a o) h' a o) :
 Inv X pins σ (upd H a o) { s with heap := h', toks := t' } := by
 have hn : H a = none := I.hok.fresh hp
 have nf : ∀ b u, H b = some u -> b ∉ fp := fun b u e z => by rw [(hf b z).1] at e; cases e
 refine I.step (g' := s.gens) (d' := s.drawn) (ch := fp) (fun b hb => ?_) (fun b o _ _ hc e _ => k b o hc e) (fun b o _ _ hc e _ => ⟨o.slots, k b o hc e⟩) (fun b o _ e n => ?_) (fun b o hc e => ⟨o, k b o hc e⟩)
  (fun b xs e => ?_) (fun b o u e => ?_) (fun b ps e => ⟨#[], ?_⟩) (fun m hm => ?_) ?_ I.bare
 · obtain ⟨_, f1, _, f3, f4, f5⟩ := hf b hb
   exact ⟨f3, f1, f4, f5⟩
 · rw [aL (fun z => by subst z; exact absurd (Heap.lt_size e) (Nat.not_lt.mpr hp))]; exact n
 · rw [aL (aO e hn)]; exact e
 · rw [aL (aO e hn)]; exact e
 · rw [aL (aO e hn)]; simpa using e
 · obtain ⟨o, es, ep, ho, r⟩ := hm
   exact ⟨o, es, ep, k _ o (fun z => (hf _ z).2.1 rfl) ho, r⟩
 · intro b u e
   by_cases hb : b = a
   · subst hb; rw [aR] at e; cases e; exact new
   · rw [aL hb] at e
     refine (I.hok b u e).stay (fun c v hc q => k c v ?_ q) (fun c q => by rw [aL (aO q hn)]; exact q) fun c xs q => by rw [aL (aO q hn)]; exact q
     rcases hc with z | z
     · rw [z]; exact nf b _ e
     · exact nf c _ z
theorem Inv.turnF {fp : List Addr} {t' : Nat} (I : Inv X pins σ H s) (hf : ∀ b ∈ fp, kI X pins H b) (k : ∀ b u, b ∉ fp -> s.heap.get? b = some u -> h'.get? b = some u) : Inv X pins σ H { s with heap := h', toks := t' } := by
 have nf : ∀ b u, H b = some u -> b ∉ fp := fun b u e z => by rw [(hf b z).1] at e; cases e
 refine I.step (g' := s.gens) (d' := s.drawn) (ch := fp) (fun b hb => ?_) (fun b o _ _ hc e _ => k b o hc e) (fun b o _ _ hc e _ => ⟨o.slots, k b o hc e⟩) (fun _ _ _ _ n => n) (fun b o hc e => ⟨o, k b o hc e⟩)
  (fun _ _ e => e) (fun _ _ _ e => e) (fun b ps e => ⟨#[], by simpa using e⟩) (fun m hm => ?_) (fun b u e => ?_) I.bare
 · obtain ⟨_, f1, _, f3, f4, f5⟩ := hf b hb
   exact ⟨f3, f1, f4, f5⟩
 · obtain ⟨o, es, ep, ho, r⟩ := hm
   exact ⟨o, es, ep, k _ o (fun z => (hf _ z).2.1 rfl) ho, r⟩
 · refine (I.hok b u e).stay (fun c v hc q => k c v ?_ q) (fun _ q => q) fun _ _ q => q
   rcases hc with z | z
   · rw [z]; exact nf b _ e
   · exact nf c _ z
end
def Ite (Sq : Hp -> List V -> Prop) : It :=
 ⟨fun i H => ∃ xs x, Sq H xs /\ xs[i]? = some x, fun i H v H' => ∃ p x, H p = none /\ v = .ref p /\ H' = upd H p (.tup [.int i, x]) /\ ∀ xs, Sq H xs -> xs[i]? = some x, fun i H => ∃ xs, Sq H xs /\ xs.length = i⟩
def tnE (e it : Addr) (It : Heap -> Nat -> Prop) (i : Nat) (h : Heap) : Prop := (∃ old, IsEnum h e it i old) /\ It h i
section
variable {P : Program} {w : World} {K : PySem.W.Frag} {elts : List Expr} {x1 : Nat} {tpos : Pos}
theorem sT {e it a : Addr} {Sq : Hp -> List V -> Prop} {It : Heap -> Nat -> Prop} (hei : e ≠ it)
 (hobj : ∀ h i, It h i -> ∃ o vs, h.get? it = some o /\ o.data = .fields vs) (hkeep : ∀ h h' i, It h i -> (∀ o, h.get? it = some o -> h'.get? it = some o) -> It h' i)
 (hinj : ∀ (X : Cx), X.K = K -> ∀ pins σ H s, Inv X pins σ H s -> ∀ xs ys, Sq H xs -> Sq H ys -> xs = ys)
 (draw : ∀ (X : Cx), X.prog = P -> X.w = w -> X.K = K -> X.calm = true -> ∀ pins σ H s, Inv X pins σ H s -> ∀ xs, Sq H xs -> (∃ o vs, s.heap.get? it = some o /\ o.data = .fields vs) -> (∃ o vs, s.heap.get? e = some o /\ o.data = .fields vs) -> ∃ (its : List Value) (fp : List Addr) (S : Nat -> Heap -> Prop), Vals xs its /\ e ∉ fp /\
  Draws P w X.A.in1 it fp its.length (fun i v => its[i]? = some v) S /\ (∀ i, It s.heap i -> S i s.heap) /\ ∀ i h, S i h -> It h i) :
 Turn P w K (.Tuple elts x1 tpos) (Ite Sq) [e, it] e (tnE e it It) where
 mem := by simp
 obj := fun i h st b hb => by
  obtain ⟨⟨old, h1⟩, h2⟩ := st
  rcases List.mem_cons.mp hb with rfl | hb
  · exact ⟨_, h1, fun v z => by cases z⟩
  · obtain ⟨o, vs, q1, q2⟩ := hobj _ _ h2
    rw [List.mem_singleton.mp hb]
    exact ⟨o, q1, fun v z => by rw [q2] at z; cases z⟩
 keep := fun i h h' st k => by
  obtain ⟨⟨old, h1⟩, h2⟩ := st
  exact ⟨⟨old, k e (by simp) _ h1⟩, hkeep _ _ _ h2 fun o q => k it (by simp) o q⟩
 item := by
  intro X hP hw hK hc i pins s σ H E I hf st hg
  obtain ⟨xs, x, hq, hx⟩ := hg
  obtain ⟨⟨old, he⟩, hit⟩ := st
  obtain ⟨its, fp, S, rv, hef, D, s1, s2⟩ := draw X hP hw hK hc pins σ H s I xs hq (hobj _ _ hit) ⟨_, _, he, rfl⟩
  subst hP hw hK
  obtain ⟨u, hu, ru⟩ := rv.get hx
  have hlt : i < its.length := (List.getElem?_eq_some_iff.mp hu).1
  refine wpAny_pyNext_enum_itemD D he (s1 _ hit) hlt hei hef fun v h1 tk hv ho st1 ht hsz hk => ⟨_, rfl, ?_⟩
  rw [hu] at hv; cases hv
  refine wpAny_letOwnedTupleGo_enum ho fun h2 he2 sb => ?_
  have ne : s.heap.objs.size ≠ e := Nat.ne_of_gt (Heap.lt_size he)
  have ht2 : h2.get? s.heap.objs.size = some { cls := .type "tuple", data := .seq #[.int i tk, u] } := (sb.2 _ ne).trans ht
  have I2 : Inv X pins σ (upd H s.heap.objs.size (.tup [.int i, x])) { s with heap := h2, toks := tk + 1 } := by
   refine I.turnLay hf (fun b o hb q => (sb.2 b fun z => hb (by simp [z])).trans (hk b o (fun z => hb (by simp [z])) (fun z => hb (by simp [z])) q)) (Nat.le_refl _) ⟨by show 2 <= sizeLine; rw [sizeLine_eq]; decide, [.int i tk, u], .cons ⟨tk, rfl⟩ (.cons ru .nil), ⟨_, ht2, rfl, _, rfl⟩⟩
  refine ⟨.ref s.heap.objs.size, _, I2, rfl, ⟨_, x, I.hok.fresh (Nat.le_refl _), rfl, rfl, fun ys hy => by rw [hinj X rfl _ _ _ _ I ys xs hy hq]; exact hx⟩, ⟨⟨_, by have := he2; push_cast; exact this⟩, ?_⟩, fun b hb => ?_⟩
  · exact hkeep _ _ _ (s2 _ _ st1) fun o q => (sb.2 it (Ne.symm hei)).trans q
  · have hb0 := (hf b hb).1
    rw [aL (fun z => ?_)]
    · exact hb0
    · subst z
      rcases List.mem_cons.mp hb with q | q
      · exact ne q
      · obtain ⟨o, vs, q1, _⟩ := hobj _ _ hit
        rw [<- List.mem_singleton.mp q] at q1
        exact absurd (Heap.lt_size q1) (Nat.lt_irrefl _)
 done := by
  intro X hP hw hK hc i pins s σ H E I hf st hg
  obtain ⟨xs, hq, hx⟩ := hg
  obtain ⟨⟨old, he⟩, hit⟩ := st
  obtain ⟨its, fp, S, rv, hef, D, s1, s2⟩ := draw X hP hw hK hc pins σ H s I xs hq (hobj _ _ hit) ⟨_, _, he, rfl⟩
  subst hP hw hK
  have hl := rv.length
  rw [hl] at hx
  subst hx
  exact wpAny_pyNext_enum_endD D he (s1 _ hit) fun h1 hx => ⟨rfl, I.turnF (t' := s.toks) hf fun b o hb q => hx b o (fun z => hb (by simp [z])) q⟩
 self := fun A i s Q E st h => by
  obtain ⟨⟨old, he⟩, _⟩ := st
  exact wpAny_pyIter_enum he h
theorem zI {e it a : Addr} (hei : e ≠ it) : Turn P w K (.Tuple elts x1 tpos) (Ite fun H xs => SqL K H a xs) [e, it] e (tnE e it fun h i => h.IsListIter it a i) := by
 refine sT (a := a) hei (fun h i st => ?_) (fun h h' i st k => st.at k) (fun X hK pins σ H s I xs ys h1 h2 => ?_) fun X hP hw hK hc pins σ H s I xs hq hi he => ?_
 · obtain ⟨o, q, _, d⟩ := st
   exact ⟨o, _, q, d⟩
 · subst hK; exact I.list_inj h1 h2
 · subst hP hw hK
   obtain ⟨its, rv, p, hz⟩ := I.list hq
   have ne : ∀ b, (∃ o vs, s.heap.get? b = some o /\ o.data = .fields vs) -> a ≠ b := fun b ⟨o, vs, q, d⟩ z => by
    subst z
    obtain ⟨o', q', _, n, d'⟩ := p.isList
    rw [q] at q'; cases q'
    rw [d] at d'; cases d'
   refine ⟨its, [it, a], fun i h => h.IsListIter it a i /\ h.IsList a its.toArray, rv, ?_, ?_, fun i st => ⟨st, p.isList⟩, fun i h st => st.1⟩
   · intro z
     rcases List.mem_cons.mp z with z | z
     · exact hei z
     · exact ne e he (List.mem_singleton.mp z).symm
   · have := Draws.list (prog := X.prog) (w := X.w) (A := X.A.in1) (I.ok.hd hc) it a (ne it hi) its.toArray
     simpa using this
theorem yQ {e it a : Addr} (hei : e ≠ it) : Turn P w K (.Tuple elts x1 tpos) (Ite fun H xs => SqT K H a xs) [e, it] e (tnE e it fun h i => h.IsTupleIter it a i) := by
 refine sT (a := a) hei (fun h i st => ?_) (fun h h' i st k => st.at k) (fun X hK pins σ H s I xs ys h1 h2 => ?_) fun X hP hw hK hc pins σ H s I xs hq hi he => ?_
 · obtain ⟨o, q, _, d⟩ := st
   exact ⟨o, _, q, d⟩
 · subst hK; exact I.tuple_inj h1 h2
 · subst hP hw hK
   obtain ⟨its, rv, p, hz⟩ := I.tuple hq
   have pt : s.heap.IsTuple a its.toArray := p
   have ne : ∀ b, (∃ o vs, s.heap.get? b = some o /\ o.data = .fields vs) -> a ≠ b := fun b ⟨o, vs, q, d⟩ z => by
    subst z
    obtain ⟨o', q', _, n, d'⟩ := pt
    rw [q] at q'; cases q'
    rw [d] at d'; cases d'
   refine ⟨its, [it, a], fun i h => h.IsTupleIter it a i /\ h.IsTuple a its.toArray, rv, ?_, ?_, fun i st => ⟨st, pt⟩, fun i h st => st.1⟩
   · intro z
     rcases List.mem_cons.mp z with z | z
     · exact hei z
     · exact ne e he (List.mem_singleton.mp z).symm
   · have := DQ (prog := X.prog) (w := X.w) (A := X.A.in1) (I.ok.hd hc) it a (ne it hi) its.toArray
     simpa using this
end
section
variable {X : Cx} {elts : List Expr} {x1 : Nat} {tpos : Pos}
def OZ (K : PySem.W.Frag) (ta : TA) : TI := fun σ H R => ta σ H fun vs H1 => ∃ a, vs = [.ref a] /\ ((∃ xs, SqL K H1 a xs /\ R (Ite fun H xs => SqL K H a xs) H1) \/ (∃ xs, SqT K H1 a xs /\ R (Ite fun H xs => SqT K H a xs) H1))
theorem LK {a : Expr} {ta : TA} {p pos : Pos} (hg : Gl X "enumerate") (hm : X.mg "enumerate" = none) (ha : PA X [a] ta) (hs : starEach [a] X.env = [(false, eval a X.env)] := by rfl) : PI X (.Tuple elts x1 tpos) (.Call (.Name "enumerate" p) [a] [] pos) (OZ X.K ta) := by
 intro pins s σ H R I h
 refine Call_ (jO I hg hm boot_enumerate (PyProof.Rows.callWith_type1 (thn (ha pos pins s σ H _ I h) fun us s1 ⟨vs, H1, I1, r1, q1⟩ => ?_) hs rfl))
 obtain ⟨l, e, q⟩ := q1
 subst e
 cases r1 with
 | cons r rr =>
  cases rr
  cases (show _ = Value.ref l from r)
  have fp : ∀ b ∈ [s1.heap.objs.size + 1, s1.heap.objs.size], kI X pins H1 b := fun b hb => by
   rcases List.mem_cons.mp hb with rfl | hb
   · exact I1.fpOk (Nat.le_succ _) (I1.hok.fresh (Nat.le_succ _))
   · rw [List.mem_singleton.mp hb]; exact I1.fpOk (Nat.le_refl _) (I1.hok.fresh (Nat.le_refl _))
  rcases q with ⟨xs, hq, q⟩ | ⟨xs, hq, q⟩
  · obtain ⟨its, rv, p, hz⟩ := I1.list hq
    refine call_enumerate_list p.isList fun h' he hit hsz hk => ?_
    refine wpAny_pyIter_enum he ?_
    exact ⟨_, _, _, _, H1, rfl, I1.kept (t' := s1.toks) hk, zI (a := l) (Nat.succ_ne_self _), ⟨⟨_, he⟩, hit⟩, fp, q⟩
  · obtain ⟨its, rv, p, hz⟩ := I1.tuple hq
    refine qW (show s1.heap.IsTuple l its.toArray from p) fun h' he hit hsz hk => ?_
    refine wpAny_pyIter_enum he ?_
    exact ⟨_, _, _, _, H1, rfl, I1.kept (t' := s1.toks) hk, yQ (a := l) (Nat.succ_ne_self _), ⟨⟨_, he⟩, hit⟩, fp, q⟩
end
def rX (ds : List PyData) : List CD := ds.zipIdx.map fun p => .d (.tuple [.int (p.2 : Nat), p.1])
def qP (f : AF) : AF := fun γ M => (f γ M).bind fun r => match r.1 with
 | [.d x] => (bI x).bind fun ds => some (rX ds, r.2)
 | _ => none
theorem CJ {ds : List PyData} {i : Nat} {x : CD} (h : (rX ds)[i]? = some x) : ∃ d, ds[i]? = some d /\ x = .d (.tuple [.int (i : Nat), d]) := by
 unfold rX at h
 rw [List.getElem?_map, List.getElem?_zipIdx] at h
 cases e : ds[i]? with
 | none => rw [e] at h; cases h
 | some d =>
  rw [e] at h
  exact ⟨d, rfl, by simpa using h.symm⟩
theorem NF {K : PySem.W.Frag} {tA : TA} {fa : AF} (b : SA K tA fa) : SI K (OZ K tA) (qP fa) := by
 intro γ M xs M' hh W H σ R G Rs k
 obtain ⟨⟨ys, M1⟩, h1, hh⟩ := aH hh
 refine b _ _ _ _ h1 W H σ _ G Rs fun vs W1 H1 e1 G1 r1 => ?_
 revert hh
 dsimp only
 split
 · rename_i y
   intro hh
   obtain ⟨ds, h2, hh⟩ := aH hh
   cases hh
   cases r1 with
   | cons r r' =>
    cases r'
    obtain ⟨p, us, rfl, hs, hr⟩ := eZ (show Rep K W1.F y _ from r) h2
    have gv : ∀ Sq : Hp -> List V -> Prop, (∀ W2 M2 H2, W1.Ext W2 -> Good K W2 M2 H2 -> Sq H2 us) -> zH K (Ite Sq) (rX ds) W1 := fun Sq hS W2 M2 H2 e2 G2 => by
     have hq := hS W2 M2 H2 e2 G2
     refine ⟨fun i x hx => ?_, us, hq, by rw [show (rX ds).length = ds.length by simp [rX], hr.length]⟩
     obtain ⟨d, hd, rfl⟩ := CJ hx
     obtain ⟨u, hu, ru⟩ := Paired.get (eQ hr) (show (ds.map CD.d)[i]? = some (.d d) by rw [List.getElem?_map, hd]; rfl)
     refine ⟨⟨us, u, hq, hu⟩, fun v H3 hy => ?_⟩
     obtain ⟨p', x', hn, rfl, rfl, hx'⟩ := hy
     have := hx' us hq
     rw [hu] at this; cases this
     obtain ⟨e3, G3⟩ := G2.lay (o := .tup [.int i, u]) hn
     refine ⟨_, e3, G3, ⟨p', _, rfl, SqT.of aR, ?_⟩⟩
     exact ⟨_, _, rfl, rfl, _, _, rfl, Rep.same e3.ff _ _ (show Rep K W2.F d u from (ru.up e2)), rfl⟩
    refine ⟨p, rfl, ?_⟩
    rcases hs with hs | hs
    · exact .inl ⟨us, G1.fh.seq hs, k _ W1 H1 e1 G1 (gv _ fun W2 M2 H2 e2 G2 => G2.fh.seq (e2.ff.seq hs))⟩
    · exact .inr ⟨us, G1.fh.seqT hs, k _ W1 H1 e1 G1 (gv _ fun W2 M2 H2 e2 G2 => G2.fh.seqT (e2.ff.seqT hs))⟩
 · intro hh; cases hh
theorem zP {ι : Type} {K : PySem.W.Frag} {X : ι -> Cx} {a : Expr} {fa : AF} {pos : Pos} {elts : List Expr} {x1 : Nat} {tpos p : Pos} (hK : ∀ i, (X i).K = K) (hm : ∀ i, (X i).mg "enumerate" = none) (x : MA K X [a] fa) (hg : ∀ i, Gl (X i) "enumerate" := by intro _; rfl) : MI K X (.Tuple elts x1 tpos) (.Call (.Name "enumerate" p) [a] [] pos) (qP fa) := by
 obtain ⟨t, x1', x2⟩ := x.ex
 exact ⟨_, fun i => by have := LK (elts := elts) (x1 := x1) (tpos := tpos) (p := p) (pos := pos) (hg i) (hm i) (x1' i) (x.st.1 _); rw [hK i] at this; exact this, NF x2⟩
end L2
end
section
set_option Elab.async false
set_option linter.all false
set_option maxRecDepth 100000
set_option maxHeartbeats 4000000
namespace PySem
open PySem.Calls PyProof.Rows
abbrev lA (x : Value) (f : Bool) (d : Addr) (i n ep : Nat) (p q : Value) : Obj :=
 { cls := .type "dict_itemiterator", dict := none, data := .fields #[x, .bool f, .ref d, .int i 0, .int n 0, .int ep 0, p, q], slots := #[] }
abbrev duo (e : DictEntry) : Obj := { cls := .type "tuple", data := .seq #[e.key, e.val] }
def sM (h : Heap) (it d : Addr) (i n ep : Nat) : Prop :=
 ∃ x f p q, h.get? it = some (lA x f d i n ep p q) /\ (x = .none \/ ∃ a o, x = rawInt (a : Nat) /\ h.get? a = some o)
def Raw (h : Heap) (d : Addr) (es : Array DictEntry) (ep : Nat) : Prop := ∃ o, h.get? d = some o /\ o.data = .dict es ep
theorem Raw.to {h h' : Heap} {d : Addr} {es : Array DictEntry} {ep : Nat} (r : Raw h d es ep) (k : ∀ o, h.get? d = some o -> h'.get? d = some o) : Raw h' d es ep := let ⟨o, e, x⟩ := r; ⟨o, k o e, x⟩
section
variable {prog : Program} {w : World} {A : Around} {E : Value -> Shared -> Prop} {s : Shared} {it d v : Addr} {es : Array DictEntry} {i n ep : Nat}
theorem yJ (d : Addr) (hd : (d == sysModules) = false) : MeetsIn prog w (Builtin.«dict.items» ⟨[.ref d], []⟩) fun _ R s => s.TypeIs (.ref d) "dict" /\
 R (.ok (.ret (.ref s.heap.objs.size))) { s with heap := s.heap.push { cls := .type "dict_items", data := .fields #[.ref d] } } :=
 .of_wp fun A R s ⟨ty, h⟩ => by
  have q : Builtin.Dict.showsAll d = pure () := by unfold Builtin.Dict.showsAll; rw [hd]; rfl
  show wpAny _ _ (Builtin.Dict.noArgs _ _ >>= fun _ => _) _ _ s
  unfold Builtin.Dict.noArgs
  refine wpAny_bind (wpAny_bind (wpAny_notOrdered_dict ty (wpAny_pure (?_ : wpAny _ _ (Builtin.Dict.showsAll d >>= _) _ _ s))))
  rw [q]
  exact wpAny_bind (wpAny_pure (wpAny_bind (wpAny_newObj_type (wpAny_pure ⟨_, rfl, h⟩))))
theorem xY {Q : Value -> Shared -> Prop} (hv : s.heap.IsItemsView v d) (r : Raw s.heap d es ep)
 (h : Q (.ref s.heap.objs.size) { s with heap := s.heap.push (lA .none false d 0 es.size ep .none .none) }) : wpAny (model prog w) A (pyIter (.ref v)) Q E s := by
 obtain ⟨ov, v1, v2, v3⟩ := id hv
 obtain ⟨o, r1, r2⟩ := r
 refine wpAny_pyIter_slot hv.typeIs F.slot_dict_items_iter (wpAny_call_entry F.slot_dict_items_iter hv.typeIs F.entry_dict_items_iter (wpAny_bind (wpAny_pure (wpAny_bind (?_ : wpAny _ _ (field (.ref v) 0 >>= _) _ _ s)))) (F.args_dict_items_iter_1 _))
 refine wpAny_bind (wpAny_field v1 v3 (x := .ref d) rfl (wpAny_pure (wpAny_bind (?_ : wpAny _ _ (Builtin.Dict_items.newIterator _ d) _ _ s))))
 refine wpAny_bind (wpAny_dictEntries r1 r2 (wpAny_bind (wpAny_dictEpoch r1 r2 ?_)))
 rw [show Builtin.Dict_items.ownsTuple "dict_itemiterator" = true from by decide]
 refine wpAny_newObj_type (wpAny_pure ⟨_, rfl, _, _, ⟨_, Heap.get?_push_size _ rfl, rfl⟩, F.slot_dict_itemiterator_next.lookup, ?_⟩) (by simp [sizeOk, Builtin.Dict_items.ownedTupleFields, sizeLine_eq])
 exact h
theorem JA {e : DictEntry} {Q : Value -> Shared -> Prop} (st : sM s.heap it d i n ep)
 (h : ∀ h', sM h' it d i n ep -> h'.get? s.heap.objs.size = some (duo e) -> (∀ b o, b ≠ it -> s.heap.get? b = some o -> h'.get? b = some o) -> Q (.ref s.heap.objs.size) { s with heap := h' }) :
 wpAny (model prog w) A (Builtin.Dict_items.pairFromOwner (.ref it) 6 e.key e.val) Q E s := by
 obtain ⟨H, g, dr, tk, os⟩ := s
 obtain ⟨x, f, p, q, w0, hx⟩ := st
 have lt : it < H.objs.size := Heap.lt_size w0
 have new : (H.push (duo e)).get? H.objs.size = some (duo e) := Heap.get?_push_size _ rfl
 have old : ∀ b o, H.get? b = some o -> (H.push (duo e)).get? b = some o := fun b o => Heap.get?_push_of_some _
 refine wpAny_bind (wpAny_newTuple ?_)
 show wpAny _ _ (Builtin.Dict_items.ownedTupleIsFree (.ref it) >>= _) _ _ ⟨H.push (duo e), g, dr, tk, os⟩
 generalize H.push (duo e) = G at new old ⊢
 have w1 := old it _ w0
 have fin : ∀ h' x' f' p' q', h'.get? it = some (lA x' f' d i n ep p' q') -> (x' = .none \/ ∃ a o, x' = rawInt (a : Nat) /\ G.get? a = some o) -> Heap.SameBut it G h' -> Q (.ref H.objs.size) ⟨h', g, dr, tk, os⟩ := by
  intro h' x' f' p' q' k1 k2 k3
  refine h h' ⟨x', f', p', q', k1, k2.imp id ?_⟩ (k3.extBut _ _ (Nat.ne_of_gt lt) new) fun b o nb e => k3.extBut b o nb (old b o e)
  rintro ⟨a, o, ea, eo⟩
  by_cases c : a = it
  · exact ⟨a, _, ea, c ▸ k1⟩
  · exact ⟨a, o, ea, k3.extBut a o c eo⟩
 unfold Builtin.Dict_items.ownedTupleIsFree
 refine wpAny_bind (wpAny_bind (wpAny_field w1 rfl (x := x) rfl ?_))
 rcases hx with rfl | ⟨a, o, rfl, ea⟩
 · refine wpAny_pure (wpAny_bind (wpAny_field w1 rfl (x := p) rfl (wpAny_bind (wpAny_field w1 rfl (x := q) rfl (wpAny_bind (wpAny_setField_rec w1 (by simp) fun h1 w2 k2 => ?_))))))
   refine wpAny_bind (wpAny_setField_rec w2 (by simp) fun h2 w3 k3 => wpAny_bind (wpAny_setField_rec w3 (by simp) fun h3 w4 k4 => wpAny_bind (wpAny_setField_rec w4 (by simp) fun h4 w5 k5 => ?_)))
   exact wpAny_bind (wpAny_letGo (wpAny_pure (fin h4 _ _ _ _ w5 (.inr ⟨_, _, rfl, new⟩) (((k2.trans k3).trans k4).trans k5))))
 · have al : (loadIfAlive ((a : Int).toNat) : Sem (Option Obj)) = loadIfAlive a := by rw [Int.toNat_natCast]
   show wpAny _ _ (loadIfAlive ((a : Int).toNat) >>= _) _ _ _
   rw [al]
   refine wpAny_bind (W.kdx_alive (old a o ea) ?_)
   show wpAny _ _ (field (.ref it) 1 >>= _) _ _ _
   refine wpAny_bind (wpAny_field w1 rfl (x := .bool f) rfl ?_)
   cases f
   · exact wpAny_bind (wpAny_setField_rec w1 (by simp) fun h1 w2 k2 => wpAny_pure (wpAny_pure (fin h1 _ _ _ _ w2 (.inr ⟨a, o, rfl, old a o ea⟩) k2)))
   · exact wpAny_pure (wpAny_pure (fin G _ _ _ _ w1 (.inr ⟨a, o, rfl, old a o ea⟩) (Heap.SameBut.refl _ _)))
theorem yS {Q : Option Value -> Shared -> Prop} (hh : A.handled = none) (st : sM s.heap it d i es.size ep) (r : Raw s.heap d es ep) (ne : d ≠ it)
 (h1 : ∀ e, es[i]? = some e -> ∀ h', sM h' it d (i + 1) es.size ep -> h'.get? s.heap.objs.size = some (duo e) -> (∀ b o, b ≠ it -> s.heap.get? b = some o -> h'.get? b = some o) -> Q (some (.ref s.heap.objs.size)) { s with heap := h' })
 (h2 : es[i]? = none -> ∀ h', Heap.ExtBut it s.heap h' -> Q none { s with heap := h' }) : wpAny (model prog w) A (pyNext (.ref it)) Q E s := by
 obtain ⟨H, g, dr, tk, os⟩ := s
 obtain ⟨x, f, p, q, w0, hx⟩ := st
 obtain ⟨od, r1, r2⟩ := r
 have ty : Shared.TypeIs ⟨H, g, dr, tk, os⟩ (.ref it) "dict_itemiterator" := ⟨_, w0, rfl⟩
 have own : Builtin.Dict_items.ownsTuple "dict_itemiterator" = true := by decide
 unfold pyNext
 refine wpAny_bind (wpAny_attempt (wpAny_callSpecial?_slot ty F.slot_dict_itemiterator_next (wpAny_call_entry F.slot_dict_itemiterator_next ty F.entry_dict_itemiterator_next (wpAny_bind (wpAny_pure (wpAny_bind (wpAny_bind ?_)))) (F.args_dict_itemiterator_next_1 _))))
 refine wpAny_bind (wpAny_typeNameOfWhole_itemiter ty (wpAny_pure (wpAny_bind (wpAny_fieldsOf w0 rfl ?_))))
 rw [own]
 refine wpAny_bind (wpAny_pure (wpAny_bind (wpAny_dictEntries r1 r2 ?_)))
 rw [if_neg (by simp)]
 refine wpAny_bind (wpAny_pure (wpAny_bind (wpAny_dictEpoch r1 r2 ?_)))
 rw [if_neg (by simp)]
 refine wpAny_pure ?_
 have pl : (if (i : Int) < 0 then none else es[(i : Int).toNat]?) = es[i]? := by rw [if_neg (by omega), Int.toNat_natCast]
 simp only [pl]
 cases c : es[i]? with
 | some e =>
  refine wpAny_bind (wpAny_bind (wpAny_typeNameOfWhole_itemiter ty (wpAny_pure (wpAny_bind (wpAny_isOneOf_itemiter ty ?_)))))
  refine wpAny_bind (wpAny_setField_rec w0 (k := 3) (x := rawInt ((i : Int) + 1)) (by simp) fun h' w1 k1 => wpAny_bind (wpAny_holding ?_))
  have st1 : sM h' it d (i + 1) es.size ep := by
   refine ⟨x, f, p, q, w1, hx.imp id fun ⟨a, o, ea, eo⟩ => ?_⟩
   by_cases c : a = it
   · exact ⟨a, _, ea, c ▸ w1⟩
   · exact ⟨a, o, ea, k1.extBut a o c eo⟩
  have ty1 : Shared.TypeIs ⟨h', g, dr, tk, os⟩ (.ref it) "dict_itemiterator" := ⟨_, w1, rfl⟩
  refine wpAny_bind (wpAny_isOneOf_itemiter ty1 (wpAny_bind (wpAny_isOneOf_itemiter ty1 (JA (e := e) st1 fun h'' st2 t2 k2 => ?_))))
  have sz : h'.objs.size = H.objs.size := k1.1
  refine wpAny_pure ⟨_, rfl, wpAny_pure ?_⟩
  rw [sz] at t2 ⊢
  exact h1 e c h'' st2 t2 fun b o nb eb => k2 b o nb (k1.extBut b o nb eb)
 | none =>
  refine wpAny_bind (wpAny_bind (wpAny_typeNameOfWhole_itemiter ty (wpAny_pure (wpAny_bind (wpAny_setField w0 (i := 2) (x := .none) rfl (by simp) (wpAny_bind ?_))))))
  simp only [newExc, newTuple]
  refine wpAny_bind (wpAny_newObj_type (wpAny_bind (m := firstArgMember _ _) (wpAny_of_eq (a := Value.none) (by simp only [firstArgMember]; rfl) (wpAny_newObj_type ?_ (by size_fits)))) (by size_fits))
  simp only [raiseNew]
  refine wpAny_bind (wpAny_handled ?_)
  rw [show A.in1.handled = none from hh]
  refine wpAny_bind (wpAny_pure (wpAny_throw ?_))
  refine wpAny_bind (wpAny_isInstance (b := true) (T := "StopIteration") ⟨_, Heap.get?_push_size _ rfl, rfl⟩ isSubtype_stop ?_)
  exact wpAny_pure (h2 c _ (((Heap.SameBut.update ..).extBut.push _).push _))
end
structure Handed (es : Array DictEntry) (lo : Addr) (h : Heap) (as : List Addr) : Prop where
 rise : as.Pairwise (· < ·)
 above : ∀ a ∈ as, lo < a
 duos : ∀ (j : Nat) (a : Addr), as[j]? = some a -> ∃ e, es[j]? = some e /\ h.get? a = some (duo e)
theorem Handed.to {es : Array DictEntry} {lo lo' : Addr} {h h' : Heap} {as : List Addr} (g : Handed es lo h as) (l : lo' <= lo) (k : ∀ a o, lo < a -> h.get? a = some o -> h'.get? a = some o) : Handed es lo' h' as :=
 ⟨g.rise, fun a ha => Nat.lt_of_le_of_lt l (g.above a ha), fun j a ha => let ⟨e, x, y⟩ := g.duos j a ha; ⟨e, x, k a _ (g.above a (List.mem_of_getElem? ha)) y⟩⟩
theorem Handed.more {es : Array DictEntry} {lo a : Addr} {h : Heap} {as : List Addr} {e : DictEntry} (g : Handed es lo h as) (up : ∀ b ∈ as, b < a) (hl : lo < a) (he : es[as.length]? = some e) (ha : h.get? a = some (duo e)) : Handed es lo h (as ++ [a]) := by
 refine ⟨List.pairwise_append.mpr ⟨g.rise, List.pairwise_singleton _ _, fun b hb c hc => by rw [List.mem_singleton.mp hc]; exact up b hb⟩, fun b hb => ?_, fun j b hj => ?_⟩
 · exact (List.mem_append.mp hb).elim (g.above b) fun q => List.mem_singleton.mp q ▸ hl
 · rw [List.getElem?_append] at hj
   split at hj
   · exact g.duos j b hj
   · have z : j - as.length = 0 := by
      have := (List.getElem?_eq_some_iff.mp hj).1
      simp at this; omega
     rw [z] at hj
     cases hj
     exact ⟨e, by rw [show j = as.length by omega]; exact he, ha⟩
abbrev rowOf (acc : Array Value) (c : Nat) : Obj := { cls := .type "list", dict := none, data := .seq acc c, slots := #[] }
section
variable {prog : Program} {w : World} {A : Around} {E : Value -> Shared -> Prop} {s : Shared} {S I d v : Addr} {es : Array DictEntry} {ep : Nat} {R : Result -> Shared -> Prop} {res : Value}
theorem qH (hh : A.handled = none) (hI : S < I) (dS : d ≠ S) (dI : d ≠ I) (hn : es.size <= sizeLine) :
 ∀ (m i : Nat) (h : Heap) (tk c : Nat) (acc : Array Value) (as : List Addr), i + m = es.size -> sM h I d i es.size ep -> Raw h d es ep -> h.get? S = some (rowOf acc c) -> acc.toList = as.map Value.ref -> as.length = i -> Handed es I h as -> I < h.objs.size ->
  (∀ h' tk acc c as, (∀ b o, b ≠ S -> b ≠ I -> h.get? b = some o -> h'.get? b = some o) -> h'.get? S = some (rowOf acc c) -> as.length = es.size -> Handed es I h' as -> acc.toList = as.map Value.ref -> R (.ok (.ret res)) { s with heap := h', toks := tk }) ->
  codeAny (model prog w) A (.builtin "list.extend.loop" ⟨[.ref S, .ref I, res], []⟩) R { s with heap := h, toks := tk }
 | m, i, h, tk, c, acc, as, em, st, r, hS, ea, el, hG, lI, fin => by
  have nS : S ≠ I := Nat.ne_of_lt hI
  refine codeAny_builtin PySem.F.entry_extend_loop ?_
  rw [Around.under_plainId PySem.F.plain_extend_loop _]
  refine wpAny_bind (yS (A := A.in1) (s := { s with heap := h, toks := tk }) hh st r dI (fun e he h1 st1 t1 k1 => ?_) fun he h1 k1 => ?_)
  · have mi : i < es.size := (Array.getElem?_eq_some_iff.mp he).1
    have za : acc.size = i := by rw [<- Array.length_toList, ea, List.length_map, el]
    have lS : S < h.objs.size := Heap.lt_size hS
    have hS1 := k1 S _ nS hS
    have sv : ∀ b o, b ≠ S -> h1.get? b = some o -> (h1.update S (Obj.mapSeq (·.push (Value.ref h.objs.size)))).get? b = some o := fun b o nb e => (Heap.get?_update_other _ _ (Ne.symm nb)).trans e
    have hS2 := Heap.get?_update_self (Obj.mapSeq (·.push (Value.ref h.objs.size))) hS1 rfl
    have tp := sv _ _ (Nat.ne_of_gt lS) t1
    refine wpAny_bind (wpAny_updateSeq (f := (·.push (Value.ref h.objs.size))) hS1 rfl (wpAny_pure ⟨plainId_quiet PySem.F.plain_extend_loop _, ?_⟩) (by rw [za]; omega) (by show (acc.push _).size <= _; rw [Array.size_push, za]; omega))
    refine qH hh hI dS dI hn (m - 1) (i + 1) _ tk _ (acc.push (Value.ref h.objs.size)) (as ++ [h.objs.size]) (by omega) ?_ (r.to fun o e => sv d o dS (k1 d o dI e)) hS2 (by rw [Array.toList_push, ea, List.map_append]; rfl) (by rw [List.length_append, el]; rfl)
     ((hG.to (Nat.le_refl _) fun a o la e => sv a o (Nat.ne_of_gt (Nat.lt_trans hI la)) (k1 a o (Nat.ne_of_gt la) e)).more (fun b hb => ?_) lI (by rw [el]; exact he) tp) (Nat.lt_trans lI (Heap.lt_size tp))
     fun h' tk' acc' c' as' k => fin h' tk' acc' c' as' fun b o b1 b2 e => k b o b1 b2 (sv b o b1 (k1 b o b2 e))
    · obtain ⟨x, f, p, q, w1, hx⟩ := st1
      refine ⟨x, f, p, q, sv _ _ (Ne.symm nS) w1, hx.imp id fun ⟨a, o, e1, e2⟩ => ?_⟩
      by_cases q : a = S
      · subst q; exact ⟨a, _, e1, hS2⟩
      · exact ⟨a, o, e1, sv a o q e2⟩
    · obtain ⟨j, hj⟩ := List.mem_iff_getElem?.mp hb
      obtain ⟨_, _, y⟩ := hG.duos j b hj
      exact Heap.lt_size y
  · have mi : es.size <= i := Array.getElem?_eq_none_iff.mp he
    exact wpAny_pure (fin h1 tk acc c as (fun b o _ b2 e => k1 b o b2 e) (k1 S _ nS hS) (by omega) (hG.to (Nat.le_refl _) fun a o la e => k1 a o (Nat.ne_of_gt la) e) ea)
 termination_by m => m
theorem DE {Q : List Value -> Shared -> Prop} (hh : A.handled = none) (hv : s.heap.IsItemsView v d) (r : Raw s.heap d es ep) (hn : es.size <= sizeLine)
 (hQ : ∀ (h' : Heap) (tk : Nat) (as : List Addr), (∀ b o, s.heap.get? b = some o -> h'.get? b = some o) -> as.length = es.size -> Handed es s.heap.objs.size h' as -> Q (as.map Value.ref) { s with heap := h', toks := tk }) :
 wpAny (model prog w) A (collect (.ref v)) Q E s := by
 obtain ⟨H, g, dr, tk, os⟩ := s
 have lv : v < H.objs.size := let ⟨_, ho, _⟩ := hv; Heap.lt_size ho
 have ld : d < H.objs.size := let ⟨_, ho, _⟩ := r; Heap.lt_size ho
 refine wpAny_bind (wpAny_runValue (codeAny_builtin entry_proto_collect' ?_))
 rw [Around.under_plainId PySem.F.plain_proto_collect _]
 refine wpAny_bind (m := newList []) (wpAny_newObj_type (wpAny_pure ⟨plainId_quiet PySem.F.plain_list_iadd _, codeAny_builtin entry_list_iadd' ?_⟩))
 rw [Around.under_plainId PySem.F.plain_list_iadd _]
 have p0 : ∀ b o, H.get? b = some o -> (H.push (rowOf #[] 0)).get? b = some o := fun b o e => Heap.get?_push_of_some _ e
 have r0 := (Heap.get?_push_size H (o := rowOf #[] 0) rfl)
 have z0 : (H.push (rowOf #[] 0)).objs.size = H.objs.size + 1 := Heap.size_push ..
 show wpAny _ A.in1 (Builtin.List.listExtendWith (.ref H.objs.size) (.ref v) (.ref H.objs.size)) _ _ ⟨H.push (rowOf #[] 0), g, dr, tk, os⟩
 generalize H.push (rowOf #[] 0) = G at p0 r0 z0 ⊢
 have lG : H.objs.size < G.objs.size := by rw [z0]; exact Nat.lt_succ_self _
 have hv1 : G.IsItemsView v d := let ⟨o, a, b⟩ := hv; ⟨o, p0 _ _ a, b⟩
 refine wpAny_bind (wpAny_typeOf (T := "dict_items") (hv1.typeIs (s := ⟨G, g, dr, tk, os⟩)) ?_)
 rw [show Builtin.List.listSameRef (.ref H.objs.size) (.ref v) = false from by simp [Builtin.List.listSameRef, Nat.ne_of_gt lv]]
 refine wpAny_bind (xY (s := ⟨G, g, dr, tk, os⟩) hv1 (r.to fun o e => p0 d o e) (wpAny_bind (wpAny_holding (W.kdx_hint (r := v) (let ⟨o, a, b, _⟩ := hv1; ⟨o, Heap.get?_push_of_some _ a, b⟩) ?_))))
 have p1 : ∀ b o, G.get? b = some o -> (G.push (lA .none false d 0 es.size ep .none .none)).get? b = some o := fun b o e => Heap.get?_push_of_some _ e
 have r1 := Heap.get?_push_size G (o := lA .none false d 0 es.size ep .none .none) rfl
 show wpAny _ _ _ _ _ ⟨G.push (lA .none false d 0 es.size ep .none .none), g, dr, tk, os⟩
 generalize G.push (lA .none false d 0 es.size ep .none .none) = F at p1 r1 ⊢
 have go : ∀ h c, (∀ b o, b ≠ H.objs.size -> F.get? b = some o -> h.get? b = some o) -> h.get? H.objs.size = some (rowOf #[] c) ->
  codeAny (model prog w) A (.builtin "list.extend.loop" ⟨[.ref H.objs.size, .ref G.objs.size, .ref H.objs.size], []⟩) (fun r s' => match r with | .ok (.ret v) => wpAny (model prog w) A (match v with | .ref a => load a >>= fun o => (match o.data with | .seq xs _ => pure xs.toList | _ => unsupported "internal:collect") | _ => unsupported "internal:collect") Q E s' | .ok _ => False | .error e => E e s') ⟨h, g, dr, tk, os⟩ := fun h c k hS =>
  qH (s := ⟨H, g, dr, tk, os⟩) (S := H.objs.size) (I := G.objs.size) hh lG (Nat.ne_of_lt ld) (Nat.ne_of_lt (Nat.lt_trans ld lG)) hn es.size 0 h tk c #[] [] (Nat.zero_add _) ⟨_, _, _, _, k _ _ (Nat.ne_of_gt lG) r1, .inl rfl⟩ (r.to fun o e => k _ _ (Nat.ne_of_lt ld) (p1 _ _ (p0 _ _ e))) hS rfl rfl
   ⟨.nil, (fun _ q => nomatch q), fun j a q => by simp at q⟩ (Heap.lt_size (k _ _ (Nat.ne_of_gt lG) r1)) fun h' tk' acc c as k' hS' el hG ea => wpAny_bind (wpAny_load hS' (wpAny_pure (by
    rw [ea]
    exact hQ h' tk' as (fun b o e => k' b o (Nat.ne_of_lt (Heap.lt_size e)) (Nat.ne_of_lt (Nat.lt_trans (Heap.lt_size e) lG)) (k b o (Nat.ne_of_lt (Heap.lt_size e)) (p1 b o (p0 b o e)))) el (hG.to (Nat.le_of_lt lG) fun _ _ _ e => e))))
 have q0 := p1 _ _ r0
 have q1 := Heap.get?_update_self (Obj.mapSeq (·.push Value.none)) q0 rfl
 refine wpAny_ite_split (fun _ => wpAny_bind (wpAny_rule (wpAny_bind (wpAny_bind (wpAny_updateSeq (f := (·.push Value.none)) q0 rfl (wpAny_updateSeq (hz := by seq_fits) q1 rfl (wpAny_pure ⟨plainId_quiet PySem.F.plain_extend_loop _, go _ _ (fun b o nb e => ?_) (Heap.get?_update_self (Obj.mapSeq (·.pop)) q1 rfl)⟩))))))) fun _ => wpAny_pure ⟨plainId_quiet PySem.F.plain_extend_loop _, go _ _ (fun _ _ _ e => e) q0⟩
 rw [Heap.get?_update_other _ _ (Ne.symm nb), Heap.get?_update_other _ _ (Ne.symm nb)]
 exact e
end
end PySem
end
section
set_option Elab.async false
set_option linter.all false
set_option maxRecDepth 100000
set_option maxHeartbeats 4000000
namespace PySem.W
open PySem PySem.Calls PyProof.Rows PyProof.V PySem.Spec
section
variable {prog : Program} {w : World} {A : Around} {E : Value -> Shared -> Prop} {s : Shared} {h₀ : Heap} {L : Addr} {m : Str -> Option Value} {news : List (Addr × Obj)} {vs : List Value}
theorem l2_tail {Q : Value -> Shared -> Prop} (F : Fr h₀ L s.heap m) (N : News h₀ L s.heap news) (h2 : 2 <= vs.length) (h64 : vs.length < 64)
 (h : ∀ D e1 h', Fr h₀ L h' m -> News h₀ L h' ((D, seqObj "list" #[] e1) :: news) -> (∀ q ∈ news, q.1 < D) ->
  wpAny (model prog w) A.in1 (keyKind' vs.toArray) (fun κ s' => (kas_sort vs.length).kasWp (kas_ask prog w A.in1 κ vs) (fun p s'' => KasFin h₀ L m D e1 (p.toList.map fun i => vs.getD i Value.none) (fun s3 => Q (.ref D) s3) s'') s') (fun _ _ => False) { s with heap := h' }) :
 wpAny (model prog w) A (do let l <- newList vs; let _ <- holding [l] (call (.builtin "list.sort") [l]); ret l) (fun fin s' => ∃ v, fin = .done (.ret v) /\ Q v s') E s := by
 refine wpAny_bind (wpAny_newList ?_ (by rw [sizeLine_eq]; omega))
 have hoL : (s.heap.push (seqObj "list" vs.toArray 0)).get? s.heap.objs.size = some (seqObj "list" vs.toArray 0) := Heap.get?_push_size _ rfl
 have keep : ∀ b o, s.heap.get? b = some o -> (s.heap.push (seqObj "list" vs.toArray 0)).get? b = some o := fun b o q => Heap.get?_push_of_some _ q
 have hL : L < s.heap.objs.size := F.ns.lt
 show wpAny _ _ _ _ _ { s with heap := s.heap.push (seqObj "list" vs.toArray 0) }
 refine wpAny_bind (wpAny_holding (wpAny_call_entry slot_list_sort ⟨_, hoL, rfl⟩ entry_list_sort ?body (args_list_sort _)))
 case body =>
  refine kat_list_sort (s := { s with heap := s.heap.push (seqObj "list" vs.toArray 0) }) (F.kept keep) (N.grown keep) hoL (Nat.ne_of_gt hL) (Heap.get?_none_of_le (Nat.le_trans F.above (Nat.le_of_lt hL)))
   (fun p hp => Nat.ne_of_lt (Heap.lt_size (N p hp).1)) h2 h64 fun e1 h' F' N' => ?_
  refine wpAny_mono (h _ e1 h' F' N' fun q hq => Heap.lt_size (N q hq).1) (fun κ s' hk => ?_) fun _ _ x => x
  rw [kat_ask_eq rfl] at hk ⊢
  exact kas_wp_mono hk fun p s'' hk' => hk'.mono fun s3 hq => ⟨_, rfl, wpAny_pure ⟨_, rfl, hq⟩⟩
end
end PySem.W
namespace L2
open PySem PySem.Spec PyProof.Rows
section
variable {X : Cx} {pins : List (Addr × Obj)} {σ : St} {H : Hp} {s : Shared} {E : Value -> Shared -> Prop}
def jJ (its : List Value) : Sem PySem.Fin := do let l <- newList its; let _ <- holding [l] (call (.builtin "list.sort") [l]); ret l
def EY (K : PySem.W.Frag) (vs : List V) (H : Hp) (Q : VK) : Prop :=
 (∃ rows : List (List PyData), RepAll K H (rows.map .tuple) vs /\ 2 <= rows.length /\ rows.length < 64 /\ (∀ r ∈ rows, r.all SeqAt.shaped = true /\ fP r = true) /\ (iO rows = true \/ jE rows = true) /\ (∀ i j, i < rows.length -> j < rows.length -> (iP (rows.getD i []) (rows.getD j [])).isSome = true) /\
  ∀ l, H l = none -> Q (.ref l) (upd H l (.lst ((fK (lO rows) rows.length).map fun i => vs.getD i .non)))) \/ (vs.length < 2 /\ ∀ l, H l = none -> Q (.ref l) (upd H l (.lst vs)))
theorem TH {A : Around} {rows : List (List PyData)} {vs : List V} {its : List Value} {Q : VK} (hu : A.in1.units + 64 < cLine) (I : Inv X pins σ H s) (rv : Vals vs its) (hrep : RepAll X.K H (rows.map .tuple) vs) (h2 : 2 <= rows.length) (h64 : rows.length < 64)
 (hsh : ∀ r ∈ rows, r.all SeqAt.shaped = true /\ fP r = true) (hknd : iO rows = true \/ jE rows = true) (hlt : ∀ i j, i < rows.length -> j < rows.length -> (iP (rows.getD i []) (rows.getD j [])).isSome = true)
 (q : ∀ l, H l = none -> Q (.ref l) (upd H l (.lst ((fK (lO rows) rows.length).map fun i => vs.getD i .non)))) :
 wpAny (model X.prog X.w) A (jJ its) (fun fin s' => ∃ v, fin = .done (.ret v) /\ ∃ x H', Inv X pins σ H' s' /\ RelV x v /\ Q x H') E s := by
 obtain ⟨as, hr⟩ := RepAll.reads I _ vs its hrep rv
 have hlen : its.length = rows.length := by rw [ReadsAll.len hr, List.length_map]
 obtain ⟨m, F⟩ := I.fr
 have N : News X.base X.env.locals s.heap (gG X.base s.heap X.env.locals) := xD
 unfold jJ
 refine PySem.W.l2_tail (Q := fun v s' => ∃ x H', Inv X pins σ H' s' /\ RelV x v /\ Q x H') F N (by omega) (by omega) fun D e1 h' F' N' hD => ?_
 have kp : ∀ (h1 : Heap), Fr X.base X.env.locals h1 m -> (∀ q ∈ gG X.base s.heap X.env.locals, h1.get? q.1 = some q.2) -> ∀ b o, b ≠ X.env.locals -> s.heap.get? b = some o -> h1.get? b = some o := fun h1 G1 M1 b o hb e => by
  cases z : X.base.get? b with
  | some v =>
   have := I.bk b v z
   rw [e] at this; cases this
   exact G1.keep b _ z
  | none => exact M1 (b, o) (fV hb z e)
 have k' := kp h' F' (fun q hq => (N' q (List.mem_cons_of_mem _ hq)).1)
 have hsz : s.heap.get? D = none := by
  have hN := N' _ List.mem_cons_self
  cases e : s.heap.get? D with
  | none => rfl
  | some o => exact absurd (hD (D, o) (fV hN.2.1 hN.2.2 e)) (Nat.lt_irrefl _)
 have seqL : ∀ b o vs n, s.heap.get? b = some o -> o.data = .seq vs n -> b ≠ X.env.locals := fun b o vs n e d z => by
  obtain ⟨o', es, ep, x1, x2, _⟩ := F.ns
  subst z
  rw [e] at x1; cases x1
  rw [d] at x2; cases x2
 have onl : fP (rows.map .tuple) = true := by
  clear hrep hr hlen q hknd hlt h2 h64
  induction rows with
  | nil => rfl
  | cons x r ih =>
   show (fP x && fP (r.map .tuple)) = true
   rw [(hsh x List.mem_cons_self).2, ih fun y hy => hsh y (List.mem_cons_of_mem _ hy)]; rfl
 have hr' : ReadsAll h' its (rows.map .tuple) as := JS (fun b o vs n e d => k' b o (seqL b o vs n e d) e) _ _ _ onl hr
 refine DI (s := { s with heap := h' }) hr' (by omega) hknd ?_
 rw [hlen]
 refine KS.wp (lt := lO rows) (n := rows.length) (fun i j C hi hj c => ?_) (fun p hp' => ?_) ((AW (by omega)).ks (lt := lO rows))
 · have at_ : ∀ i, i < rows.length -> ∃ bs, Reads h' (its.getD i .none) (.tuple (rows.getD i [])) bs := fun i hi => by
    obtain ⟨bs, x⟩ := ReadsAll.at i hr' (by simpa using hi)
    have : (rows.map PyData.tuple).getD i .none = .tuple (rows.getD i []) := by
     rw [List.getD_eq_getElem?_getD, List.getElem?_map, List.getD_eq_getElem?_getD, List.getElem?_eq_getElem hi]; rfl
    rw [this] at x
    exact ⟨bs, x⟩
   obtain ⟨b1, r1⟩ := at_ i hi
   obtain ⟨b2, r2⟩ := at_ j hj
   have mem : ∀ i, i < rows.length -> rows.getD i [] ∈ rows := fun i hi => by
    rw [List.getD_eq_getElem?_getD, List.getElem?_eq_getElem hi]; exact List.getElem_mem hi
   have hd : iO rows = true -> ∀ r ∈ rows, r.head?.all isI = true := fun z r hr => by
    unfold iO at z
    have := List.all_eq_true.mp z r hr
    cases r with
    | nil => rfl
    | cons d ds => cases d <;> first | rfl | exact absurd this (by intro z; cases z)
   obtain ⟨c0, hc0⟩ := Option.isSome_iff_exists.mp (hlt i j hi hj)
   have hc : lO rows i j = c0 := by unfold lO; rw [hc0]; rfl
   rw [hc] at c
   exact RC (s := { s with heap := h' }) hu r1 r2 (hsh _ (mem i hi)).1 (hsh _ (mem j hj)).1 hc0 (fun z => ⟨hd z _ (mem i hi), hd z _ (mem j hj)⟩) c
 · obtain ⟨e, _⟩ := hp'
   subst e
   refine PySem.W.KasFin.intro F' N' (.head fun q hq => Nat.ne_of_lt (hD q hq)) fun h'' c F'' N'' => ?_
   have k'' := kp h'' F'' (fun q hq => (N'' q (List.mem_cons_of_mem _ hq)).1)
   refine ⟨.ref D, upd H D (.lst ((fK (lO rows) rows.length).map fun i => vs.getD i .non)), ?_, rfl, q D (I.hok.none hsz)⟩
   refine I.laidL k'' (fun m' hm' => ?_) hsz ⟨?_, _, c, rR rv _, (N'' _ List.mem_cons_self).1⟩
   · rw [<- BD F.ns hm']; exact F''.ns
   · rw [List.length_map, (iV (lO rows) (by omega)).length_eq, List.length_range]
     have : 64 <= sizeLine := by decide
     omega
theorem SN {A : Around} {vs : List V} {its : List Value} {Q : VK} (I : Inv X pins σ H s) (rv : Vals vs its) (h2 : vs.length < 2) (q : ∀ l, H l = none -> Q (.ref l) (upd H l (.lst vs))) :
 wpAny (model X.prog X.w) A (jJ its) (fun fin s' => ∃ v, fin = .done (.ret v) /\ ∃ x H', Inv X pins σ H' s' /\ RelV x v /\ Q x H') E s := by
 have hl := rv.length
 have hz : its.length <= sizeLine := by rw [sizeLine_eq]; omega
 unfold jJ
 refine wpAny_bind (wpAny_newList ?_ hz)
 refine wpAny_bind (wpAny_holding ?_)
 have gD : (s.heap.push { cls := .type "list", data := .seq its.toArray }).get? s.heap.objs.size = some (seqObj "list" its.toArray 0) := Heap.get?_push_size _ rfl
 refine wpAny_call_entry slot_list_sort ⟨_, gD, rfl⟩ entry_list_sort (oJ gD (by omega) ⟨_, rfl, ?_⟩) (args_list_sort _)
 obtain ⟨c, gg⟩ : ∃ c, (sortedHeap (s.heap.push { cls := .type "list", data := .seq its.toArray }) s.heap.objs.size its its.toArray).get? s.heap.objs.size = some (seqObj "list" its.toArray c) := by
  unfold sortedHeap
  have g1 := get?_update_seq gD (fun _ => #[])
  have g2 := Heap.get?_push_of_some (seqObj "tuple" its.toArray 0) g1
  have g3 := Heap.get?_push_of_some (seqObj "list" #[] 0) g2
  exact ⟨_, get?_update_seq g3 (fun _ => its.toArray)⟩
 refine wpAny_pure ⟨_, rfl, .ref s.heap.objs.size, upd H s.heap.objs.size (.lst vs), I.laid (t' := s.toks) (fun b o e => ?_) (Nat.le_refl _) ⟨by omega, its, c, rv, gg⟩, rfl, q _ (I.hok.fresh (Nat.le_refl _))⟩
 · have hb : b ≠ s.heap.objs.size := Nat.ne_of_lt (Heap.lt_size e)
   unfold sortedHeap
   rw [Heap.get?_update_ne _ _ _ _ hb]
   refine Heap.get?_push_of_some _ (Heap.get?_push_of_some _ ?_)
   rw [Heap.get?_update_ne _ _ _ _ hb]
   exact Heap.get?_push_of_some _ e
theorem RL {A : Around} {vs : List V} {its : List Value} {Q : VK} (hu : A.in1.units + 64 < cLine) (I : Inv X pins σ H s) (rv : Vals vs its) (h : EY X.K vs H Q) :
 wpAny (model X.prog X.w) A (jJ its) (fun fin s' => ∃ v, fin = .done (.ret v) /\ ∃ x H', Inv X pins σ H' s' /\ RelV x v /\ Q x H') E s := by
 rcases h with ⟨rows, a, b, c, d, e, f, g⟩ | ⟨a, b⟩
 · exact TH hu I rv a b c d e f g
 · exact SN I rv a b
def lV : List (V × V) -> Hp -> (List V -> Hp -> Prop) -> Prop
 | [], H, k => k [] H
 | (x, y) :: r, H, k => ∀ p, H p = none -> lV r (upd H p (.tup [x, y])) fun vs H2 => k (.ref p :: vs) H2
theorem Inv.trackT {e : Addr} {vs : List V} {its : List Value} {n : Nat} (I : Inv X pins σ H s) (he : s.heap.get? e = some { cls := .type "tuple", data := .seq its.toArray n }) (rv : Vals vs its) (hz : vs.length <= sizeLine) (hn : H e = none) (h0 : X.s₀.heap.get? e = none) (hp : ∀ p ∈ X.pn ++ pins, p.1 ≠ e) :
 Inv X pins σ (upd H e (.tup vs)) s := by
 have ne : ∀ b u, H b = some u -> b ≠ e := fun b u z => aO z hn
 have nd : ∀ b (o : Obj), s.heap.get? b = some o -> (∀ vs n, o.data ≠ .seq vs n) -> b ≠ e := fun b o q z w => by
  subst w; rw [he] at q; cases q; exact z _ _ rfl
 refine ⟨I.ok, I.os, I.bare, ⟨I.base.keep, I.base.slot, fun b o q n hx => ?_, I.base.there, fun b xs q => ?_, fun b o u q => ?_, fun b ps q => ?_⟩, I.loc, I.cell, ?_, fun x c q => ?_, fun p h => ?_, fun b u q => ?_, I.len⟩
 · rw [aL (fun z => by rw [z, h0] at q; cases q)]
   exact I.base.free b o q n hx
 · have := I.base.tups b xs q
   rw [aL (ne _ _ this)]; exact this
 · have := I.base.frzs b o u q
   rw [aL (ne _ _ this)]; exact this
 · obtain ⟨more, this⟩ := I.base.tbls b ps q
   exact ⟨more, by rw [aL (ne _ _ this)]; exact this⟩
 · obtain ⟨m, ⟨o, es, ep, ho, hd, _⟩, _⟩ := I.loc
   rw [aL (nd _ o ho fun vs n z => by rw [hd] at z; cases z)]
   exact I.free
 · obtain ⟨v, o, ho, hd⟩ := I.cell x c q
   rw [aL (nd _ o ho fun vs n z => by rw [hd] at z; cases z)]
   exact I.freeC x c q
 · obtain ⟨q1, q2, q3⟩ := I.pin p h
   exact ⟨q1, by rw [aL (hp p h)]; exact q2, q3⟩
 · by_cases hb : b = e
   · subst hb
     rw [aR] at q
     cases q
     exact ⟨hz, its, rv, ⟨_, he, rfl, n, rfl⟩⟩
   · rw [aL hb] at q
     exact (I.hok b u q).stay (fun _ _ _ z => z) (fun c z => by rw [aL (ne _ _ z)]; exact z) fun c xs z => by rw [aL (ne _ _ z)]; exact z
theorem AE : ∀ {ps : List (V × V)} {us : List (Value × Value)} {as : List Addr} {H : Hp} {k : List V -> Hp -> Prop}, Inv X pins σ H s -> Paired (fun p q => RelV p.1 q.1 /\ RelV p.2 q.2) ps us -> as.length = us.length -> as.Pairwise (· < ·) -> (∀ a ∈ as, H a = none) ->
 (∀ (j : Nat) (a : Addr), as[j]? = some a -> ∃ p, us[j]? = some p /\ s.heap.get? a = some { cls := .type "tuple", data := .seq #[p.1, p.2] }) -> (∀ a ∈ as, X.s₀.heap.get? a = none /\ ∀ p ∈ X.pn ++ pins, p.1 ≠ a) -> lV ps H k -> ∃ H2, Inv X pins σ H2 s /\ k (as.map .ref) H2
 | [], us, as, H, k, I, r, hl, _, _, _, _, h => by
  cases r
  have : as = [] := List.eq_nil_of_length_eq_zero hl
  subst this
  exact ⟨H, I, h⟩
 | (x, y) :: ps, us, as, H, k, I, r, hl, hp, hn, hg, h0, h => by
  cases r with
  | @cons _ q _ us' r1 r2 =>
   match as, hl, hp, hn, hg, h0 with
   | a :: as', hl, hp, hn, hg, h0 =>
    obtain ⟨p, e1, e2⟩ := hg 0 a rfl
    have e1 : some q = some p := e1
    cases e1
    obtain ⟨p1, p2⟩ := List.pairwise_cons.mp hp
    have I1 := I.trackT (e := a) (vs := [x, y]) (its := [q.1, q.2]) e2 (.cons r1.1 (.cons r1.2 .nil)) (by show 2 <= sizeLine; rw [sizeLine_eq]; decide) (hn a List.mem_cons_self) (h0 a List.mem_cons_self).1 (h0 a List.mem_cons_self).2
    have hl' : as'.length = us'.length := Nat.succ.inj hl
    obtain ⟨H2, I2, hk⟩ := AE (as := as') (k := fun vs H2 => k (.ref a :: vs) H2) I1 r2 hl' p2 (fun b hb => by rw [aL (Nat.ne_of_gt (p1 b hb))]; exact hn b (List.mem_cons_of_mem _ hb)) (fun j b hb => hg (j + 1) b hb) (fun b hb => h0 b (List.mem_cons_of_mem _ hb)) (h a (hn a List.mem_cons_self))
    exact ⟨H2, I2, hk⟩
def EC (K : PySem.W.Frag) (td : TE) : TE := fun σ H Q => td σ H fun x H1 => ∃ a kvs, x = .ref a /\ H1 a = some (.dT kvs) /\
 ∀ bs : List Addr, Paired (fun (b : Addr) (kv : List Key × V) => H1 b = some (.tup (kv.1.map kV))) bs kvs -> lV ((bs.zip kvs).map fun p => (.ref p.1, p.2.2)) H1 fun vs H2 => EY K vs H2 Q
end
section
variable {X : Cx} {o : Expr} {td : TE} {pos apos cpos p : Pos}
theorem KT.addrs {H : Hp} : ∀ {kvs : List (List Key × V)} {xs : List (List Key × Addr × Value)}, KT H kvs xs -> Paired (fun (b : Addr) (kv : List Key × V) => H b = some (.tup (kv.1.map kV))) (xs.map fun x => x.2.1) kvs /\
 Paired (fun (p : V × V) (q : Value × Value) => RelV p.1 q.1 /\ RelV p.2 q.2) (((xs.map fun x => x.2.1).zip kvs).map fun p => (V.ref p.1, p.2.2)) (xs.map fun x => (Value.ref x.2.1, x.2.2))
 | _, _, .nil => ⟨.nil, .nil⟩
 | _, _, .cons r1 r2 => ⟨.cons r1.2.1 (KT.addrs r2).1, .cons ⟨rfl, r1.2.2⟩ (KT.addrs r2).2⟩
theorem IJ (hu : X.A.in1.in1.units + 64 < cLine) (hc : X.calm = true) (hg : Gl X "sorted") (hm : X.mg "sorted" = none) (ho : PE X o td) (hb : attributeBase o "items" X.env (eval o X.env) = eval o X.env) (hline : (apos.endLine == cpos.line) = true) :
 PE X (.Call (.Name "sorted" p) [.Call (.Attribute o "items" apos) [] [] cpos] [] pos) (EC X.K td) := by
 intro pins s σ H Q I h
 refine wpAny_Call_Name_kw (jO I hg hm boot_sorted ?_ (by decide) (by decide))
 refine PyProof.Rows.callWith_builtin1 ?_ rfl rfl
 show wpAny _ _ (spliced ((false, eval (.Call (.Attribute o "items" apos) [] [] cpos) X.env) :: [])) _ _ s
 refine Calls.spliced_cons ?_
 refine wpAny_Call_method (T := "dict") (id := "dict.items") hb rfl hline PySem.F.plainAttrs_dict PySem.F.slot_dict_items PySem.F.type_dict_items (thn (ho pins s σ H _ I h) fun u s1 ⟨x, H1, I1, rx, a, kvs, ex, ea, q⟩ => ?_)
 subst ex
 obtain rfl : u = Value.ref a := rx
 obtain ⟨z, hs, xs, r, od, es, ep, h1, h2, h3, h4, h5⟩ := (show ObjOk X.prog X.w H1 s1.heap a (.dT kvs) from I1.hok a _ ea)
 have hT : s1.TypeIs (.ref a) "dict" := ⟨od, h1, h2.1⟩
 refine ⟨hT, fun b e => by cases e; exact ⟨od, h1, h2.2.1⟩, ?_⟩
 show wpAny _ _ (callWith cpos (.builtin "dict.items") [.ref a] [] []) _ _ s1
 refine method_meetsIn PySem.F.slot_dict_items PySem.F.entry_dict_items rfl (PySem.evalArgs_none ⟨rfl, hT, PySem.F.args_dict_items_1 _, _, yJ a hs, hT, ?_⟩)
 refine Calls.spliced_nil ?_
 have I2 : Inv X pins σ H1 { s1 with heap := s1.heap.push { cls := .type "dict_items", data := .fields #[.ref a] } } := I1.kept (t' := s1.toks) fun b o e => Heap.get?_push_of_some _ e
 have hv : (s1.heap.push { cls := .type "dict_items", data := .fields #[.ref a] }).IsItemsView s1.heap.objs.size a := ⟨_, Heap.get?_push_size _ rfl, rfl, rfl⟩
 have hat : Raw (s1.heap.push { cls := .type "dict_items", data := .fields #[.ref a] }) a es ep := ⟨od, Heap.get?_push_of_some _ h1, h3⟩
 have hzs : es.size = xs.length := by rw [<- Array.length_toList, h4, List.length_map]
 have hl : kvs.length = xs.length := Paired.len r
 refine Calls.call_function_entry kind_sorted plain_sorted entry_sorted (args_sorted1 _) ?_
 unfold Builtin.«sorted»
 refine wpAny_bind (m := checkCount "sorted" 1 1 _) (wpAny_pure ?_)
 refine wpAny_bind (DE (A := X.A.in1) (I.ok.hd hc) hv hat (by rw [hzs, <- hl]; exact z) fun h' tk as hk hal hG => ?_)
 have I3 : Inv X pins σ H1 { s1 with heap := h', toks := tk } := I2.kept hk
 obtain ⟨pk1, pk2⟩ := KT.addrs r
 have hge : ∀ b ∈ as, s1.heap.objs.size < b := fun b hb => Nat.lt_trans (show s1.heap.objs.size < (s1.heap.push { cls := .type "dict_items", data := .fields #[.ref a] }).objs.size by rw [Heap.size_push]; exact Nat.lt_succ_self _) (hG.above b hb)
 obtain ⟨H2, I4, hk2⟩ := AE (as := as) (s := { s1 with heap := h', toks := tk }) I3 pk2 (by rw [hal, hzs, List.length_map]) hG.rise (fun b hb => I1.hok.fresh (Nat.le_of_lt (hge b hb))) (fun j b hj => by
  obtain ⟨e, e1, e2⟩ := hG.duos j b hj
  refine ⟨(e.key, e.val), ?_, e2⟩
  rw [<- Array.getElem?_toList, h4, List.getElem?_map] at e1
  rw [List.getElem?_map]
  cases c : xs[j]? <;> rw [c] at e1 <;> cases e1
  rfl) (fun b hb => ⟨Heap.get?_none_of_le (Nat.le_trans I1.sz (Nat.le_of_lt (hge b hb))), fun p hp => Nat.ne_of_lt (Nat.lt_trans (Heap.lt_size (I1.pin p hp).1) (hge b hb))⟩) (q _ pk1)
 exact RL (A := X.A.in1) hu I4 (its := as.map Value.ref) (by
  clear hk2 hG hal hge
  induction as with
  | nil => exact .nil
  | cons b as ih => exact .cons rfl ih) hk2
end
section
variable {K : PySem.W.Frag} {td : TE} {fo : EF}
theorem Good.adopt {W : Wd} {M : Sto} {H : Hp} {b : Addr} {us : List V} (G : Good K W M H) (hb : H b = some (.tup us)) : W.Ext { W with F := upd W.F b (.tup us) } /\ Good K { W with F := upd W.F b (.tup us) } M H := by
 have ff : Same W.F (upd W.F b (.tup us)) := fun c o hc => by
  by_cases q : c = b
  · subst q
    have := G.fh _ _ hc
    rw [hb] at this; cases this
    exact aR
  · rw [aL q]; exact hc
 have e : W.Ext { W with F := upd W.F b (.tup us) } := ⟨ff, Nat.le_refl _, fun _ _ => rfl⟩
 refine ⟨e, fun c o hc => ?_, G.n, fun i c hi hc => ?_, G.inj⟩
 · have hc : upd W.F b (.tup us) c = some o := hc
   by_cases q : c = b
   · subst q; rw [aR] at hc; cases hc; exact hb
   · rw [aL q] at hc; exact G.fh c o hc
 · obtain ⟨h1, o, h2, h3⟩ := G.cs i c hi hc
   have ne : W.α i ≠ b := fun q => by
    rw [q, hb] at h2
    cases h2
    cases c <;> exact False.elim h3
   exact ⟨by show upd W.F b (.tup us) (W.α i) = none; rw [aL ne]; exact h1, o, h2, h3.up e⟩
def vK (kv : List Key × PyData) : List PyData := [.tuple (kv.1.map RR), kv.2]
def rU : List (List Key × CD) -> Option (List (List Key × PyData))
 | [] => some []
 | (k, .d x) :: r => (rU r).bind fun q => some ((k, x) :: q)
 | _ => none
def jT (rows : List (List PyData)) : Option (List PyData) := if sortable rows = true then some (HJ rows) else if rows.length < 2 then some (rows.map .tuple) else none
def mV (fo : EF) : EF := fun γ M => (fo γ M).bind fun o => match o.1 with
 | .c i => match o.2[i]? with
  | some (.dt kvs) => (rU kvs).bind fun ds => (jT (ds.map vK)).bind fun r => some (.d (.list r), o.2)
  | _ => none
 | _ => none
theorem BP {H : Hp} : ∀ ks : List Key, RepAll K H (ks.map RR) (ks.map kV)
 | [] => rfl
 | k :: ks => ⟨_, _, rfl, by cases k <;> rfl, BP ks⟩
theorem rT {M : Sto} {H : Hp} : ∀ {bs : List Addr} {kvs : List (List Key × V)} {W : Wd}, Good K W M H -> Paired (fun (b : Addr) (kv : List Key × V) => H b = some (.tup (kv.1.map kV))) bs kvs -> ∃ W', W.Ext W' /\ Good K W' M H /\ Paired (fun (b : Addr) (kv : List Key × V) => W'.F b = some (.tup (kv.1.map kV))) bs kvs
 | _, _, W, G, .nil => ⟨W, .refl _, G, .nil⟩
 | _, _, W, G, .cons h1 h2 => by
  obtain ⟨e1, G1⟩ := G.adopt h1
  obtain ⟨W2, e2, G2, p2⟩ := rT G1 h2
  exact ⟨W2, e1.trans e2, G2, .cons (e2.ff _ _ aR) p2⟩
theorem vZ {M : Sto} : ∀ {bs : List Addr} {ds : List (List Key × PyData)} {kvs : List (List Key × V)} {W : Wd} {H : Hp} {k : List V -> Hp -> Prop}, Good K W M H -> Paired (fun (b : Addr) (kv : List Key × V) => W.F b = some (.tup (kv.1.map kV))) bs kvs -> Paired (fun (p : List Key × PyData) (q : List Key × V) => p.1 = q.1 /\ Rep K W.F p.2 q.2) ds kvs ->
 (∀ vs W' H', W.Ext W' -> Good K W' M H' -> RepAll K W'.F ((ds.map vK).map .tuple) vs -> k vs H') -> lV ((bs.zip kvs).map fun p => (.ref p.1, p.2.2)) H k
 | _, _, _, W, H, k, G, .nil, .nil, c => c [] W H (.refl _) G rfl
 | b :: bs, (ks, d) :: ds, (ks', v) :: kvs, W, H, k, G, .cons h1 h2, .cons q1 q2, c => by
  obtain ⟨rfl, rd⟩ := (show ks = ks' /\ Rep K W.F d v from q1)
  intro p hp
  obtain ⟨e1, G1⟩ := G.lay (o := .tup [.ref b, v]) hp
  refine vZ G1 (Paired.mapP h2 fun _ _ r => e1.ff _ _ r) (Paired.mapP q2 fun _ _ r => ⟨r.1, Rep.same e1.ff _ _ r.2⟩) fun vs W2 H2 e2 G2 r2 => ?_
  refine c _ W2 H2 (e1.trans e2) G2 ⟨_, _, rfl, ⟨p, _, rfl, SqT.of (e2.ff _ _ aR), ?_⟩, r2⟩
  exact ⟨_, _, rfl, ⟨b, _, rfl, SqT.of ((e1.trans e2).ff _ _ h1), BP ks⟩, _, _, rfl, Rep.same (e1.trans e2).ff _ _ rd, rfl⟩
theorem rM {W : Wd} : ∀ {kvs : List (List Key × CD)} {ds : List (List Key × PyData)} {us : List (List Key × V)}, rU kvs = some ds -> PKV K W kvs us -> Paired (fun (p : List Key × PyData) (q : List Key × V) => p.1 = q.1 /\ Rep K W.F p.2 q.2) ds us
 | [], _, _, h, .nil => by cases h; exact .nil
 | (k, .d x) :: r, _, _, h, .cons r1 r2 => by
  obtain ⟨q, h1, h⟩ := aH (show (rU r).bind _ = _ from h)
  cases h
  exact .cons r1 (rM h1 r2)
 | (k, .c _) :: r, _, _, h, _ => by cases h
theorem EI (a : SE K td fo) : SE K (EC K td) (mV fo) := by
 intro γ M x M' hh W H σ Q G R k
 obtain ⟨⟨o, M1⟩, h1, hh⟩ := aH hh
 revert hh
 dsimp only
 split
 · rename_i i
   split
   · rename_i kvs hk
     intro hh
     obtain ⟨ds, h2, hh⟩ := aH hh
     obtain ⟨r, h3, hh⟩ := aH hh
     cases hh
     refine a _ _ _ _ h1 W H σ _ G R fun v W1 H1 e1 G1 r1 => ?_
     obtain ⟨us, hu, pu⟩ := G1.dtAt hk
     refine ⟨_, us, r1.2, hu, fun bs pb => ?_⟩
     obtain ⟨W2, e2, G2, p2⟩ := rT G1 pb
     refine vZ G2 p2 (Paired.mapP (rM h2 pu) fun _ _ r => ⟨r.1, Rep.same e2.ff _ _ r.2⟩) fun vs W3 H3 e3 G3 r3 => ?_
     have e13 := (e1.trans e2).trans e3
     unfold jT at h3
     by_cases hs : sortable (ds.map vK) = true
     · rw [if_pos hs] at h3
       cases h3
       obtain ⟨s1, s2, s3, s4, s5⟩ := wJ hs
       refine .inl ⟨ds.map vK, RepAll.same G3.fh _ _ r3, s1, s2, s3, s4, s5, fun l hl => ?_⟩
       obtain ⟨e4, G4⟩ := G3.lay (o := .lst ((fK (lO (ds.map vK)) (ds.map vK).length).map fun i => vs.getD i .non)) hl
       exact k _ _ _ (e13.trans e4) G4 ⟨l, _, rfl, SqL.of aR, RepAll.same e4.ff _ _ (vJ r3 _ (WU (by omega)))⟩
     · rw [if_neg hs] at h3
       by_cases hl2 : (ds.map vK).length < 2
       · rw [if_pos hl2] at h3
         cases h3
         refine .inr ⟨by rw [<- r3.length, List.length_map]; exact hl2, fun l hl => ?_⟩
         obtain ⟨e4, G4⟩ := G3.lay (o := .lst vs) hl
         exact k _ _ _ (e13.trans e4) G4 ⟨l, _, rfl, SqL.of aR, RepAll.same e4.ff _ _ r3⟩
       · rw [if_neg hl2] at h3; cases h3
   · intro hh; cases hh
 · intro hh; cases hh
theorem FA {ι : Type} {X : ι -> Cx} {o : Expr} {f : EF} {pos apos cpos p : Pos} (hK : ∀ i, (X i).K = K) (hu : ∀ i, (X i).A.in1.in1.units + 64 < cLine) (hc : ∀ i, (X i).calm = true) (hm : ∀ i, (X i).mg "sorted" = none) (x : ME K X o f) (hg : ∀ i, Gl (X i) "sorted" := by intro _; rfl)
 (hb : ∀ env : Env, attributeBase o "items" env (eval o env) = eval o env := by intro _; rfl) (hline : (apos.endLine == cpos.line) = true := by rfl) : ME K X (.Call (.Name "sorted" p) [.Call (.Attribute o "items" apos) [] [] cpos] [] pos) (mV f) := by
 obtain ⟨t, x1, x2⟩ := x.ex
 exact ⟨_, fun i => by have := IJ (p := p) (pos := pos) (apos := apos) (cpos := cpos) (hu i) (hc i) (hg i) (hm i) (x1 i) (hb _) hline; rw [hK i] at this; exact this, EI x2⟩
end
end L2
end
section
set_option Elab.async false
set_option linter.all false
set_option maxRecDepth 100000
set_option maxHeartbeats 4000000
namespace L2
open PySem PySem.Spec PyProof.Rows
section
variable {K : PySem.W.Frag}
def fFreeze (f : EF) : EF := fun γ M => (f γ M).bind fun r => match r.1 with
 | .c i => match r.2[i]? with
  | some (.lst xs) => (iM xs).bind fun ds => some (.d (.list ds), r.2.set i .dead)
  | _ => none
 | .d x => some (.d x, r.2)
def vA : FN := fun xs M => match xs with
 | [.d a] => (bI a).bind fun ds => some (.c M.length, M ++ [.lst (ds.map .d)])
 | [.c i] => match M[i]? with
  | some (.lst ys) => some (.c M.length, M ++ [.lst ys])
  | _ => none
 | _ => none
theorem JQ : PN K (yY K) vA := by
 intro xs M z M' h W H vs Q G r k
 unfold vA at h
 split at h
 · rename_i a
   obtain ⟨ds, h1, h⟩ := aH h
   cases h
   rcases r with _ | ⟨r1, _ | _⟩
   obtain ⟨p, us, rfl, hs, hr⟩ := eZ (show Rep K W.F a _ from r1) h1
   refine ⟨p, us, rfl, hs.elim (fun q => .inl (G.fh.seq q)) (fun q => .inr (G.fh.seqT q)), fun l hl => ?_⟩
   exact k _ (W.more l) _ (W.ext_more l) (G.new hl (c := .lst (ds.map .d)) (o := .lst us) (eQ hr)) G.newV
 · rename_i i
   split at h
   · rename_i ys hy
     cases h
     rcases r with _ | ⟨r1, _ | _⟩
     obtain ⟨us, hv, hr⟩ := G.lstAt hy
     refine ⟨_, us, by rw [r1.2], .inl (SqL.of hv), fun l hl => ?_⟩
     exact k _ (W.more l) _ (W.ext_more l) (G.new hl (c := .lst ys) (o := .lst us) hr) G.newV
   · cases h
 · cases h
theorem OU {ι : Type} {X : ι -> Cx} (hK : ∀ i, (X i).K = K) : QN K X (.type "list") vA := ⟨_, fun i => QJ (hK i), JQ⟩
end
end L2
end
section
set_option Elab.async false
set_option linter.all false
set_option maxRecDepth 100000
set_option maxHeartbeats 4000000
namespace L2
open PySem PySem.Spec PyProof.Rows
section
variable {X : Cx} {pins : List (Addr × Obj)} {σ : St} {H : Hp} {s : Shared} {a : Addr} {y v : V} {u r : Value} {A : Around} {E : Value -> Shared -> Prop}
theorem CZ {H' : Hp} {Q : Unit -> Shared -> Prop} (hu : A.units < cLine) (I : Inv X pins σ H s) (g : DPut H a y v H') (ry : RelV y u) (rv : RelV v r) (h : ∀ s', Inv X pins σ H' s' -> Q () s') :
 wpAny (model X.prog X.w) A (dictSet a u r) Q E s := by
 rcases g with ⟨kvs, k, e, ey, l, eH⟩ | ⟨kvs, k, b, e, ey, eb, l, eH⟩
 · subst ey eH
   obtain ⟨z, hd, vs, rel, dd⟩ := vY I.hok e
   have hz : vs.length <= sizeLine := by rw [<- rel.length]; exact z
   have hl : (putK kvs k v).length <= sizeLine := by have := eN kvs k v; omega
   refine wpAny_dictSet_pairs (hsz := hz) (wN ry) dd fun h' dd' hs => h _ ?_
   have he : ∃ q, h'.get? a = some q := let ⟨q, _, _, hq, _⟩ := dd'; ⟨q, hq⟩
   exact lU I (by rw [e]; exact True.intro) hs he (yH hl hd (rel.put k rv) dd')
 · subst ey eH
   cases (show u = Value.ref b from ry)
   obtain ⟨z, hd, xs, rel, dd⟩ := QL I.hok e
   have hz : xs.length <= sizeLine := by rw [<- Paired.length rel]; exact z
   have hl : (putK kvs k v).length <= sizeLine := by have := eN kvs k v; omega
   refine wpAny_dictSet_heap (hsz := hz) hu (qL I.hok eb) dd fun h' dd' hs => h _ ?_
   obtain ⟨q, es, ep, hq, h2, h3, h4, _, h5⟩ := dd'
   refine lU I (by rw [e]; exact True.intro) hs ⟨q, hq⟩ ⟨hl, hd, _, (rel.put k eb rv).keeps fun c ys ec => ?_, q, es, ep, hq, h2, h3, h4, h5⟩
   rw [aL (QE ec e (fun z => nomatch z))]
   exact ec
end
section
variable {prog : Program} {w : World} {A : Around} {R : Result -> Shared -> Prop} {s : Shared}
theorem NY {kx vx target iter : Expr} {ifs : List Expr} {scope : Scope} {pos : Pos} {it : Value} {D : Addr} {env : Env} (I : Nat -> Shared -> Prop)
 (turn : ∀ n s, I n s -> wpAny (model prog w) A (pyNext it) (fun r s1 => (r = none /\ R (.ok .next) s1) \/ ∃ v, r = some v /\
  wpAny (model prog w) A (letOwnedTupleGo target it v) (fun _ s2 => wpAny (model prog w) A (assign target env v) (fun _ s3 =>
   wpAny (model prog w) A (forIn ifs true fun c r => if r = true then (do
    let ok <- isTrue c env (eval c env)
    pure (ForInStep.yield ok)) else pure (ForInStep.yield r)) (fun ok s4 =>
     (ok = true /\ wpAny (model prog w) A (eval kx env) (fun kv s5 => wpAny (model prog w) A (eval vx env) (fun vv s6 => wpAny (model prog w) A (dictSet D kv vv) (fun _ s7 => ∃ m, m < n /\ I m s7) (fun _ _ => False) s6) (fun _ _ => False) s5) (fun _ _ => False) s4) \/
     (ok = false /\ ∃ m, m < n /\ I m s4)) (fun _ _ => False) s3) (fun _ _ => False) s2) (fun _ _ => False) s1) (fun _ _ => False) s)
 (n : Nat) (h : I n s) : codeAny (model prog w) A (.compLoop (.DictComp kx vx [⟨target, iter, ifs, 0⟩] scope pos) 0 it (.ref D) env) R s := by
 refine codeAny_loop rfl I (fun n s hI => ?_) n h
 show wpAny _ A ((compTurn (.DictComp kx vx [⟨target, iter, ifs, 0⟩] scope pos) 0 it (.ref D) env).onRaise fun x => do
  noteFrame x env
  theTreesLotGoes x) _ _ s
 refine wpAny_noted ?_
 rw [compTurn_dict]
 refine wpAny_bind (wpAny_standAt (wpAny_bind (wpAny_mono (turn n s hI) (fun r s1 h1 => ?_) fun _ _ f => f.elim)))
 rcases h1 with ⟨rfl, h1⟩ | ⟨v, rfl, h1⟩
 · exact wpAny_pure h1
 · refine wpAny_bind (wpAny_mono h1 (fun _ s2 h2 => ?_) fun _ _ f => f.elim)
   refine wpAny_bind (wpAny_mono h2 (fun _ s3 h3 => ?_) fun _ _ f => f.elim)
   refine wpAny_bind (wpAny_mono h3 (fun ok s4 h4 => ?_) fun _ _ f => f.elim)
   rcases h4 with ⟨rfl, h4⟩ | ⟨rfl, h4⟩
   · refine wpAny_bind (wpAny_bind (wpAny_mono h4 (fun kv s5 h5 => ?_) fun _ _ f => f.elim))
     refine wpAny_bind (wpAny_holding (wpAny_mono h5 (fun vv s6 h6 => ?_) fun _ _ f => f.elim))
     refine wpAny_bind (wpAny_standAt (wpAny_holding (wpAny_mono h6 (fun _ s7 h7 => wpAny_pure ⟨rfl, h7⟩) fun _ _ f => f.elim)))
   · exact wpAny_pure ⟨rfl, h4⟩
end
def tDc (o0 : HO) (cap : List (Option Nat)) (wi : TI) (g : TG) (tc : TT) (tk tv : TE) : TE := fun σ H Q => wi σ H fun J H1 => ∀ D, H1 D = none -> ∃ W : Nat -> Nat -> St -> Hp -> Prop, (∃ m, W 0 m (oM cap σ) (upd H1 D o0)) /\ ∀ i m σ' H', W i m σ' H' ->
 (J.stop i H' /\ Q (.ref D) H') \/
 (J.go i H' /\ ∃ N : St -> Hp -> Prop, (∀ σ2 H2, N σ2 H2 -> ∃ m', m' < m /\ W (i + 1) m' σ2 H2) /\ ∀ x H2, J.yld i H' x H2 -> g x σ' H2 fun σ2 H3 => tc σ2 H3 fun b H4 => (b = true /\ tk σ2 H4 fun y H5 => tv σ2 H5 fun v H6 => ∃ H7, DPut H6 D y v H7 /\ N σ2 H7) \/ (b = false /\ N σ2 H4))
section
variable {X : Cx} {N' : List Str} {cap : List (Option Nat)} {scope : Scope}
theorem IV {o0 : HO} (ho : o0 = .dT [] \/ o0 = .dK []) {kx vx tg iter : Expr} {ifs : List Expr} {pos : Pos} {wi : TI} {g : TG} {tc : TT} {tk tv : TE} (hu : X.A.units < cLine) (hc : X.calm = true) (S : LcSc X N' cap scope) (hi : PI X tg iter wi)
 (hg : ∀ C s H fp pn, PG (cE X N' scope C s H fp pn) tg g) (hif : ∀ C s H fp pn, uK (cE X N' scope C s H fp pn) ifs tc) (hk : ∀ C s H fp pn, PE (cE X N' scope C s H fp pn) kx tk) (hv : ∀ C s H fp pn, PE (cE X N' scope C s H fp pn) vx tv)
 (hs : ∀ x, foldedSetIterable iter X.env x = pure x) {pins : List (Addr × Obj)} {s : Shared} {σ : St} {H : Hp} {Q : VK} (I : Inv X pins σ H s) (h : tDc o0 cap wi g tc tk tv σ H Q) {use : Option (Value -> Sem Unit)} {QQ : Value -> Shared -> Prop}
 (post : ∀ (D C : Addr) (H' : Hp) (s' : Shared), (∃ m, s'.heap.Ns C m) -> (∀ h', Heap.SameBut C s'.heap h' -> Inv X pins σ H' { s' with heap := h' }) -> kI X pins H' C -> Q (.ref D) H' -> compPost (model X.prog X.w) X.A X.xe use QQ (.ref D) C (.ok .next) s') :
 wpAny (model X.prog X.w) X.A (comprehension (.DictComp kx vx [⟨tg, iter, ifs, 0⟩] scope pos) scope X.env (firstIterPos [⟨tg, iter, ifs, 0⟩] pos) newDict false (firstIter [⟨tg, iter, ifs, 0⟩] X.env) use) QQ X.xe s := by
 refine wpAny_comprehension_free (e := .DictComp kx vx [⟨tg, iter, ifs, 0⟩] scope pos) (g := ⟨tg, iter, ifs, 0⟩) (gs := []) rfl hs (pN (S.cells I.ok)) S.kind S.names ?_
 refine thn (hi pins s σ H _ I h) fun v s1 h1 => thn h1 fun itv s2 h2 => ?_
 obtain ⟨it, fp, tn, J, H2, e, I2, T, st2, f2, hD⟩ := h2
 subst e
 have fplt2 : ∀ b ∈ fp, b < s2.heap.objs.size := fun b hb => by
  obtain ⟨o, e, _⟩ := T.obj _ _ st2 b hb
  exact Heap.lt_size e
 refine wpAny_newObj_type ?_
 obtain ⟨W, ⟨m0, w0⟩, turn⟩ := hD s2.heap.objs.size (I2.hok.fresh (Nat.le_refl _))
 generalize hDn : s2.heap.objs.size = D at *
 have I3 : Inv X pins σ (upd H2 D o0) { s2 with heap := s2.heap.push { cls := .type "dict", data := .dict #[] } } := by
  refine I2.laid (t' := s2.toks) (fun _ _ q => Heap.get?_push_of_some _ q) (Nat.le_of_eq hDn) ?_
  rcases ho with rfl | rfl
  · rw [<- hDn]; exact vP _ I2.big
  · rw [<- hDn]; exact vL _ I2.big
 have st3 : tn 0 (s2.heap.push { cls := .type "dict", data := .dict #[] }) := T.keep _ _ _ st2 fun b _ o e => Heap.get?_push_of_some _ e
 have f3 : ∀ b ∈ fp, kI X pins (upd H2 D o0) b := fun b hb => by
  obtain ⟨q0, q1⟩ := f2 b hb
  exact ⟨by rw [aL (Nat.ne_of_lt (fplt2 b hb))]; exact q0, q1⟩
 generalize hs3 : ({ s2 with heap := s2.heap.push { cls := .type "dict", data := .dict #[] } } : Shared) = s3 at I3 ⊢
 have st3 : tn 0 s3.heap := by rw [<- hs3]; exact st3
 have fplt : ∀ b ∈ fp, b < s3.heap.objs.size := fun b hb => by
  obtain ⟨o, e, _⟩ := T.obj _ _ st3 b hb
  exact Heap.lt_size e
 refine wpAny_newFunctionEnv S.nocell (fun y hy => by simp at hy) (fun h1' hns hsb => ?_) S.kind
 have old : ∀ b o, s3.heap.get? b = some o -> h1'.get? b = some o := fun b o e => hsb.extBut b o (Nat.ne_of_lt (Heap.lt_size e)) (Heap.get?_push_of_some _ e)
 have I4 : Inv (cE X N' scope s3.heap.objs.size s3 (upd H2 D o0) fp pins) [] (oM cap σ) (upd H2 D o0) { s3 with heap := h1', toks := s3.toks + ([] : List (Str × Value)).length } :=
  wZ S I3 f3 fplt (Nat.le_refl _) (by simpa using hns) old
 have loop : ∀ s4 : Shared, s4 = { s3 with heap := h1', toks := s3.toks + ([] : List (Str × Value)).length } ->
  codeAny (model X.prog X.w) X.A (.compLoop (.DictComp kx vx [⟨tg, iter, ifs, 0⟩] scope pos) 0 (.ref it) (.ref D) (compEnvC scope (cR X.env scope.names []) s3.heap.objs.size X.env)) (compPost (model X.prog X.w) X.A X.xe use QQ (.ref D) s3.heap.objs.size) s4 := by
  rintro s4 rfl
  have stat : ∀ {Hx : Hp}, (∀ b ∈ fp, Hx b = none) -> ∀ b ∈ fp, kI (cE X N' scope s3.heap.objs.size s3 (upd H2 D o0) fp pins) [] Hx b := fun {Hx} hn b hb => by
   refine ⟨hn b hb, Nat.ne_of_lt (fplt b hb), I3.stkAll (f3 b hb).2.1 (f3 b hb).2.2.1, .inl hb, fun x c e => (f3 b hb).2.2.2.2.1 x c (S.sub I3.ok x c e), fun p hp => ?_⟩
   rcases List.mem_append.mp hp with z | z
   · exact (f3 b hb).2.2.2.2.2 p z
   · exact absurd z (by simp)
  refine NY (fun n s' => ∃ (i : Nat) (σ' : St) (H' : Hp), Inv (cE X N' scope s3.heap.objs.size s3 (upd H2 D o0) fp pins) [] σ' H' s' /\ tn i s'.heap /\ (∀ b ∈ fp, H' b = none) /\ W i n σ' H') ?_ m0
   ⟨0, oM cap σ, _, I4, T.keep _ _ _ st3 fun b _ o e => old b o e, fun b hb => (f3 b hb).1, w0⟩
  rintro n s5 ⟨i, σ', H', I5, t5, fr5, w5⟩
  rcases turn i n σ' H' w5 with ⟨stop, q⟩ | ⟨go, N, hN, step⟩
  · refine thn (T.done (cE X N' scope s3.heap.objs.size s3 (upd H2 D o0) fp pins) rfl rfl rfl hc i _ s5 σ' H' _ I5 (stat fr5) t5 stop) fun r s6 ⟨hr, I6⟩ => .inl ⟨hr, ?_⟩
    have nC : H' s3.heap.objs.size = none := I6.free
    refine post D _ H' s6 (let ⟨m, hn, _⟩ := I6.loc; ⟨m, hn⟩) (fun h' hs' => ?_) (I3.fpOk (Nat.le_refl _) nC) q
    have up : ∀ b o, b ≠ s3.heap.objs.size -> s6.heap.get? b = some o -> h'.get? b = some o := fun b o hb e => hs'.extBut b o hb e
    have ltC : ∀ b o, s3.heap.get? b = some o -> b ≠ s3.heap.objs.size := fun b o e => Nat.ne_of_lt (Heap.lt_size e)
    have u6 : Un (frs X.stack) fp (upd H2 D o0) H' s3.heap s6.heap := I6.base
    have u7 : Un (frs X.stack) fp (upd H2 D o0) H' s3.heap h' := by
     refine ⟨fun b o e n hb hx => up b o (ltC b o e) (u6.keep b o e n hb hx), fun b o e n hb hx => ?_, u6.free, fun b o e hx => ?_, u6.tups, u6.frzs, u6.tbls⟩
     · obtain ⟨sl, q⟩ := u6.slot b o e n hb hx
       exact ⟨sl, up b _ (ltC b o e) q⟩
     · obtain ⟨o', q⟩ := u6.there b o e hx
       exact ⟨o', up b o' (ltC b o e) q⟩
    have ok7 : HOk X.prog X.w H' h' := fun b u e => by
     refine (I6.hok b u e).stay (fun c v hc' z => up c v ?_ z) (fun c z => z) fun c xs z => z
     rcases hc' with rfl | z
     · exact aO e nC
     · exact aO z nC
    have os6 : s6.os = s3.os := I6.os
    have ba6 := I6.bare
    obtain ⟨hh, gg, dd, tt, oo⟩ := s6
    subst os6
    have z7 := I3.call (s := s3) (h' := h') (g' := gg) (d' := dd) (t' := tt) (ch := fp) u7 ok7 ba6 fun b hb => ⟨(f3 b hb).2.2.2.1, (f3 b hb).2.1, (f3 b hb).2.2.2.2.1, (f3 b hb).2.2.2.2.2⟩
    exact z7
  · refine thn (T.item (cE X N' scope s3.heap.objs.size s3 (upd H2 D o0) fp pins) rfl rfl rfl hc i _ s5 σ' H' _ I5 (stat fr5) t5 go) fun r s6 ⟨u, hr, h6⟩ => .inr ⟨u, hr, ?_⟩
    refine thn h6 fun _ s7 ⟨x, H7, I7, r7, y7, t7, fr7⟩ => ?_
    have I7' := I7.pinned (stat fr7) (T.obj _ _ t7)
    have back : ∀ {σx : St} {Hx : Hp} {sx : Shared}, Inv (cE X N' scope s3.heap.objs.size s3 (upd H2 D o0) fp pins) ([] ++ mE fp s7.heap) σx Hx sx -> (∀ b ∈ fp, ∀ o, s7.heap.get? b = some o -> sx.heap.get? b = some o) /\ (∀ b ∈ fp, Hx b = none) := fun {σx Hx sx} Ix => by
     refine ⟨fun b hb o e => (Ix.pin (b, o) (List.mem_append_right _ (List.mem_append_right _ (eI hb e)))).1, fun b hb => ?_⟩
     obtain ⟨o, e, _⟩ := T.obj _ _ t7 b hb
     exact (Ix.pin (b, o) (List.mem_append_right _ (List.mem_append_right _ (eI hb e)))).2.1
    refine thn (hg _ _ _ _ _ _ s7 σ' H7 x u _ I7' r7 (step x H7 y7)) fun _ s8 ⟨σ8, H8, I8, q8⟩ => ?_
    refine thn (hif _ _ _ _ _ _ s8 σ8 H8 _ I8 q8) fun b s9 ⟨H9, I9, q9⟩ => ?_
    rcases q9 with ⟨rfl, q9⟩ | ⟨rfl, n9⟩
    · refine .inl ⟨rfl, thn (hk _ _ _ _ _ _ s9 σ8 H9 _ I9 q9) fun uk s10 ⟨y, H10, I10, ry, q10⟩ => thn (hv _ _ _ _ _ _ s10 σ8 H10 _ I10 q10) fun uv s11 ⟨v, H11, I11, rv, H12, g12, n12⟩ => ?_⟩
      obtain ⟨m', hm, w12⟩ := hN _ _ n12
      refine CZ (X := cE X N' scope s3.heap.objs.size s3 (upd H2 D o0) fp pins) hu I11 g12 ry rv fun s12 I12 => ?_
      obtain ⟨b1, b2⟩ := back I12
      exact ⟨m', hm, i + 1, σ8, H12, I12.pins_of fun p hp => absurd hp (by simp), T.keep _ _ _ t7 b1, b2, w12⟩
    · obtain ⟨m', hm, w9⟩ := hN _ _ n9
      obtain ⟨b1, b2⟩ := back I9
      exact .inr ⟨rfl, m', hm, i + 1, σ8, H9, I9.pins_of fun p hp => absurd hp (by simp), T.keep _ _ _ t7 b1, b2, w9⟩
 exact codeAny_compStart_dict (loop _ rfl) (T.self _ 0 _ _ _ (T.keep _ _ _ st3 fun b _ o e => old b o e) (loop _ rfl))
theorem OX {o0 : HO} (ho : o0 = .dT [] \/ o0 = .dK []) {kx vx tg iter : Expr} {ifs : List Expr} {pos : Pos} {wi : TI} {g : TG} {tc : TT} {tk tv : TE} (hu : X.A.units < cLine) (hc : X.calm = true) (S : LcSc X N' cap scope) (hi : PI X tg iter wi)
 (hg : ∀ C s H fp pn, PG (cE X N' scope C s H fp pn) tg g) (hif : ∀ C s H fp pn, uK (cE X N' scope C s H fp pn) ifs tc) (hk : ∀ C s H fp pn, PE (cE X N' scope C s H fp pn) kx tk) (hv : ∀ C s H fp pn, PE (cE X N' scope C s H fp pn) vx tv)
 (hs : ∀ x, foldedSetIterable iter X.env x = pure x := by intro _; rfl) : PE X (.DictComp kx vx [⟨tg, iter, ifs, 0⟩] scope pos) (tDc o0 cap wi g tc tk tv) := fun pins s σ H Q I h =>
 IV (use := none) ho hu hc S hi hg hif hk hv hs I h fun D _ H' _ ⟨m, hn⟩ hI _ q => ⟨m, hn, fun h' hs' => ⟨.ref D, H', hI h' hs', rfl, q⟩⟩
theorem EK {i : Nat} {x : Str} {o0 : HO} (ho : o0 = .dT [] \/ o0 = .dK []) {kx vx tg iter : Expr} {ifs : List Expr} {pos pos' pos'' : Pos} {wi : TI} {g : TG} {tc : TT} {tk tv : TE} (hN : X.N.Nodup) (hix : X.N[i]? = some x) (hu : X.A.units < cLine) (hc : X.calm = true) (S : LcSc X N' cap scope) (hi : PI X tg iter wi)
 (hg : ∀ C s H fp pn, PG (cE X N' scope C s H fp pn) tg g) (hif : ∀ C s H fp pn, uK (cE X N' scope C s H fp pn) ifs tc) (hk : ∀ C s H fp pn, PE (cE X N' scope C s H fp pn) kx tk) (hv : ∀ C s H fp pn, PE (cE X N' scope C s H fp pn) vx tv)
 (hsw : swapsWith (.DictComp kx vx [⟨tg, iter, ifs, 0⟩] scope pos) (some (.Name x pos')) pos''.line X.env = pure true) (hx : X.env.scope.names.lookup x = some .local)
 (hs : ∀ x, foldedSetIterable iter X.env x = pure x) : PS X (.Assign [.Name x pos'] (.DictComp kx vx [⟨tg, iter, ifs, 0⟩] scope pos) pos'') (II (tDc o0 cap wi g tc tk tv) (pZ i)) := by
 intro pins s σ H D I h
 rw [exec_Assign_Name_used _ _ _ _ hsw]
 refine wpAny_bind (wpAny_standAt (wpAny_bind ?_))
 show wpAny _ _ (comprehension (.DictComp kx vx [⟨tg, iter, ifs, 0⟩] scope pos) scope X.env _ newDict false (firstIter [⟨tg, iter, ifs, 0⟩] X.env) (some (assign (.Name x pos') X.env)) >>= fun _ => pure ()) _ _ s
 refine wpAny_bind (thn (IV (use := some (assign (.Name x pos') X.env)) (QQ := fun _ s' => ∃ σ' H', Inv X pins σ' H' s' /\ D.nx σ' H') (Q := fun v H1 => pZ i v σ H1 D.nx) ho hu hc S hi hg hif hk hv hs I h fun E C H' s' ⟨m, hn⟩ hI fC hq => ?_) fun _ s' hz => wpAny_pure (wpAny_pure hz))
 have I1 : Inv X pins σ H' s' := hI s'.heap (Heap.SameBut.refl ..)
 refine wpAny_assign_Name (mR (M := model X.prog X.w) (A := X.A) (E := X.xe) I1 hN hix (.inl hx) (v := .ref E) (u := .ref E) rfl (fun s2 I2 hsb => ?_) (.inr hx))
 obtain ⟨a, hs2, ha⟩ := hsb
 have hne : C ≠ a := by
  rcases ha with z | z
  · rw [z]; exact fC.2.1
  · exact fun w => fC.2.2.2.2.1 x a z w.symm
 refine ⟨m, hn.extBut hs2.extBut hne, fun h' hs' => ?_⟩
 exact ⟨_, _, I2.turned (t' := s2.toks) (fun b o hb e => hs'.extBut b o hb e) fC.1 fC.2.1 fC.2.2.2.1 fC.2.2.2.2.1 fC.2.2.2.2.2, hq⟩
end
end L2
end
section
set_option Elab.async false
set_option linter.all false
set_option maxRecDepth 100000
set_option maxHeartbeats 4000000
namespace L2
open PySem PySem.Spec PyProof.Rows
def dcF (d : Nat) (g : GF) (c : TF) (fk : KF) (e : EF) : List CD -> Ga -> Sto -> Option Sto
 | [], _, M => some M
 | x :: xs, γ, M => (g x γ M).bind fun a => (c a.1 a.2).bind fun b => if b.1 = true then (fk a.1 b.2).bind fun k => (e a.1 k.2).bind fun v => (oF v.2 (.c d) k.1 v.1).bind fun M' => dcF d g c fk e xs a.1 M' else dcF d g c fk e xs a.1 b.2
def fDc (c0 : Cell) (cap : List (Option Nat)) (f : AF) (g : GF) (c : TF) (fk : KF) (e : EF) : EF := fun γ M => (f γ M).bind fun r => (dcF r.2.length g c fk e r.1 (lF cap γ) (r.2 ++ [c0])).bind fun M' => some (.c r.2.length, M')
section
variable {K : PySem.W.Frag} {tg : TG} {tt : TT} {hg : GF} {ft : TF} {fa : AF}
theorem GT {o0 : HO} {c0 : Cell} (h0 : (o0 = .dT [] /\ c0 = .dt []) \/ (o0 = .dK [] /\ c0 = .dk [])) {wi : TI} {cap : List (Option Nat)} {tk tv : TE} {fk : KF} {fe : EF} (i : SI K wi fa) (a : SG K tg hg) (c : STt K tt ft) (b : SK K tk fk) (e : SE K tv fe) :
 SE K (tDc o0 cap wi tg tt tk tv) (fDc c0 cap fa hg ft fk fe) := by
 intro γ M x M' hh W H σ Q G R k
 obtain ⟨⟨ys, M1⟩, h1, hh⟩ := aH hh
 obtain ⟨M9, h9, hh⟩ := aH hh
 cases hh
 refine i _ _ _ _ h1 W H σ _ G R fun J W1 H1 e1 G1 gv => fun D hD => ?_
 have G2 : Good K (W1.more D) (M1 ++ [c0]) (upd H1 D o0) := G1.new hD (by rcases h0 with ⟨rfl, rfl⟩ | ⟨rfl, rfl⟩ <;> exact .nil)
 have e2 := W1.ext_more D
 have rD : RepV K (W1.more D) (.c M1.length) (.ref D) := G1.newV
 refine ⟨fun j m σ' H' => ∃ γ' M3 W3, j <= ys.length /\ m = ys.length - j /\ (W1.more D).Ext W3 /\ Good K W3 M3 H' /\ RepS K W3 γ' σ' /\ dcF M1.length hg ft fk fe (ys.drop j) γ' M3 = some M', ⟨_, lF cap γ, _, _, Nat.zero_le _, rfl, .refl _, G2, uD ((R.up e1).up e2) cap, h9⟩, ?_⟩
 rintro j m σ' H' ⟨γ', M3, W3, hj, rfl, e3, G3, R3, h3⟩
 obtain ⟨gv1, gv2⟩ := gv W3 M3 H' (e2.trans e3) G3
 by_cases hlt : j < ys.length
 · obtain ⟨go, yl⟩ := gv1 j ys[j] (List.getElem?_eq_getElem hlt)
   rw [List.drop_eq_getElem_cons hlt] at h3
   refine .inr ⟨go, fun σ4 H4 => ∃ γ4 M4 W4, W3.Ext W4 /\ Good K W4 M4 H4 /\ RepS K W4 γ4 σ4 /\ dcF M1.length hg ft fk fe (ys.drop (j + 1)) γ4 M4 = some M', ?_, fun y H4 hy => ?_⟩
   · rintro σ4 H4 ⟨γ4, M4, W4, e4, G4, R4, h4⟩
     exact ⟨_, by omega, γ4, M4, W4, hlt, rfl, e3.trans e4, G4, R4, h4⟩
   · obtain ⟨W8, e8, G8, ry⟩ := yl y H4 hy
     obtain ⟨⟨γ5, M5⟩, h5, h3⟩ := aH (show (hg ys[j] γ' M3).bind _ = _ from h3)
     obtain ⟨⟨b6, M6⟩, h6, h3⟩ := aH h3
     refine a _ _ _ _ _ h5 W8 _ σ' y _ G8 (R3.up e8) ry fun σ5 W5 H5 e5 G5 R5 => ?_
     refine c _ _ _ _ h6 W5 H5 σ5 _ G5 R5 fun W6 H6 e6 G6 => ?_
     have e36 := (e8.trans e5).trans e6
     cases b6 with
     | true =>
      rw [if_pos rfl] at h3
      obtain ⟨⟨ky, M7⟩, h7, h3⟩ := aH h3
      obtain ⟨⟨z, M10⟩, h10, h3⟩ := aH h3
      obtain ⟨M11, h11, h3⟩ := aH h3
      refine .inl ⟨rfl, b _ _ _ _ h7 W6 H6 σ5 _ G6 (R5.up e6) fun yv W7 H7 e7 G7 r7 => e _ _ _ _ h10 W7 H7 σ5 _ G7 (R5.up (e6.trans e7)) fun v W10 H10 e10 G10 r10 => ?_⟩
      have e310 := (e36.trans e7).trans e10
      obtain ⟨p, H11, ep, g11, G11⟩ := wX G10 h11 (rD.up (e3.trans e310)) (r7.up e10) r10
      cases ep
      exact ⟨H11, g11, γ5, M11, W10, e310, G11, R5.up ((e6.trans e7).trans e10), h3⟩
     | false =>
      rw [if_neg Bool.false_ne_true] at h3
      exact .inr ⟨rfl, γ5, M6, W6, e36, G6, R5.up e6, h3⟩
 · have ej : j = ys.length := by omega
   subst ej
   rw [List.drop_length] at h3
   cases h3
   exact .inl ⟨gv2, k _ W3 H' ((e1.trans e2).trans e3) G3 (rD.up e3)⟩
variable {ι : Type} {X : ι -> Cx} {N' : List Str} {cap : List (Option Nat)} {scope : Scope} {tg' iter kx vx : Expr} {ifs : List Expr} {gf : GF} {fk : KF} {f : EF} {pos : Pos}
theorem RA (hu : ∀ i, (X i).A.units < cLine) (hc : ∀ i, (X i).calm = true) (S : ∀ i, LcSc (X i) N' cap scope) (x : MI K X tg' iter fa) (y : MG K (dM X N' scope) tg' gf) (z : MF K (dM X N' scope) ifs ft) (w : MK K (dM X N' scope) kx fk) (q : ME K (dM X N' scope) vx f) (hs : ∀ (env : Env) (x : Value), foldedSetIterable iter env x = pure x := by intro _ _; rfl) :
 ME K X (.DictComp kx vx [⟨tg', iter, ifs, 0⟩] scope pos) (fDc (.dt []) cap fa gf ft fk f) := by
 obtain ⟨t, x1, x2⟩ := x.ex; obtain ⟨u, y1, y2⟩ := y.ex; obtain ⟨v, z1, z2⟩ := z.ex; obtain ⟨o, w1, w2⟩ := w.ex; obtain ⟨p, q1, q2⟩ := q.ex
 exact ⟨_, fun i => OX (.inl rfl) (hu i) (hc i) (S i) (x1 i) (fun C s H fp pn => y1 (i, C, s, H, fp, pn)) (fun C s H fp pn => z1 (i, C, s, H, fp, pn)) (fun C s H fp pn => w1 (i, C, s, H, fp, pn)) (fun C s H fp pn => q1 (i, C, s, H, fp, pn)) (hs _), GT (.inl ⟨rfl, rfl⟩) x2 y2 z2 w2 q2⟩
theorem TJ (hu : ∀ i, (X i).A.units < cLine) (hc : ∀ i, (X i).calm = true) (S : ∀ i, LcSc (X i) N' cap scope) (x : MI K X tg' iter fa) (y : MG K (dM X N' scope) tg' gf) (z : MF K (dM X N' scope) ifs ft) (w : MK K (dM X N' scope) kx fk) (q : ME K (dM X N' scope) vx f) (hs : ∀ (env : Env) (x : Value), foldedSetIterable iter env x = pure x := by intro _ _; rfl) :
 ME K X (.DictComp kx vx [⟨tg', iter, ifs, 0⟩] scope pos) (fDc (.dk []) cap fa gf ft fk f) := by
 obtain ⟨t, x1, x2⟩ := x.ex; obtain ⟨u, y1, y2⟩ := y.ex; obtain ⟨v, z1, z2⟩ := z.ex; obtain ⟨o, w1, w2⟩ := w.ex; obtain ⟨p, q1, q2⟩ := q.ex
 exact ⟨_, fun i => OX (.inr rfl) (hu i) (hc i) (S i) (x1 i) (fun C s H fp pn => y1 (i, C, s, H, fp, pn)) (fun C s H fp pn => z1 (i, C, s, H, fp, pn)) (fun C s H fp pn => w1 (i, C, s, H, fp, pn)) (fun C s H fp pn => q1 (i, C, s, H, fp, pn)) (hs _), GT (.inr ⟨rfl, rfl⟩) x2 y2 z2 w2 q2⟩
theorem DT (i : Nat) {x' : Str} {pos' pos'' : Pos} (hN : ∀ j, (X j).N.Nodup) (hu : ∀ i, (X i).A.units < cLine) (hc : ∀ i, (X i).calm = true) (S : ∀ i, LcSc (X i) N' cap scope) (x : MI K X tg' iter fa) (y : MG K (dM X N' scope) tg' gf) (z : MF K (dM X N' scope) ifs ft) (w : MK K (dM X N' scope) kx fk) (q : ME K (dM X N' scope) vx f) (hix : ∀ j, (X j).N[i]? = some x' := by intro _; rfl)
 (hsw : ∀ j, swapsWith (.DictComp kx vx [⟨tg', iter, ifs, 0⟩] scope pos) (some (.Name x' pos')) pos''.line (X j).env = pure true := by intro _; rfl) (hx : ∀ j, (X j).env.scope.names.lookup x' = some .local := by intro _; rfl) (hs : ∀ (env : Env) (x : Value), foldedSetIterable iter env x = pure x := by intro _ _; rfl) :
 MS K X (.Assign [.Name x' pos'] (.DictComp kx vx [⟨tg', iter, ifs, 0⟩] scope pos) pos'') (bU (fDc (.dk []) cap fa gf ft fk f) (hName i)) := by
 obtain ⟨t, x1, x2⟩ := x.ex; obtain ⟨u, y1, y2⟩ := y.ex; obtain ⟨v, z1, z2⟩ := z.ex; obtain ⟨o, w1, w2⟩ := w.ex; obtain ⟨p, q1, q2⟩ := q.ex
 exact ⟨_, fun j => EK (.inr rfl) (hN j) (hix j) (hu j) (hc j) (S j) (x1 j) (fun C s H fp pn => y1 (j, C, s, H, fp, pn)) (fun C s H fp pn => z1 (j, C, s, H, fp, pn)) (fun C s H fp pn => w1 (j, C, s, H, fp, pn)) (fun C s H fp pn => q1 (j, C, s, H, fp, pn)) (hsw j) (hx j) (hs _), oZ (GT (.inr ⟨rfl, rfl⟩) x2 y2 z2 w2 q2) lK⟩
end
end L2
end
section
set_option Elab.async false
set_option linter.all false
set_option maxRecDepth 100000
set_option maxHeartbeats 4000000
namespace L2
open PySem PySem.Spec PyProof.Rows
end L2
end
section
set_option Elab.async false
set_option linter.all false
namespace L2
open PySem PySem.Spec PyProof.Rows
theorem Room.u1 {k : Nat} {A : Around} (r : Room k A) : A.units + 1 < cLine := by have := r.un; omega
theorem Room.u0 {k : Nat} {A : Around} (r : Room k A) : A.units < cLine := by have := r.un; omega
end L2
end
section
set_option Elab.async false
set_option linter.all false
set_option maxRecDepth 100000
set_option maxHeartbeats 4000000
namespace L2
open PySem PySem.Spec PyProof.Rows
abbrev IPF := Ga -> Sto -> Option ((List CD × (Sto -> Prop)) × Sto)
def WD (K : PySem.W.Frag) (J : It) (P : Sto -> Prop) (xs : List CD) (W : Wd) : Prop := ∀ W' M' H', W.Ext W' -> Good K W' M' H' -> P M' ->
 (∀ i x, xs[i]? = some x -> J.go i H' /\ ∀ y H'', J.yld i H' y H'' -> ∃ W'', W'.Ext W'' /\ Good K W'' M' H'' /\ RepV K W'' x y) /\ J.stop xs.length H'
def SIP (K : PySem.W.Frag) (wi : TI) (f : IPF) : Prop := ∀ γ M xs P M', f γ M = some ((xs, P), M') -> ∀ (W : Wd) (H : Hp) (σ : St) (R : It -> Hp -> Prop), Good K W M H -> RepS K W γ σ -> (∀ J W' H', W.Ext W' -> Good K W' M' H' -> WD K J P xs W' -> R J H') -> wi σ H R
def walked (M : Sto) : CD -> Option (List CD × (Sto -> Prop))
 | .d x => (bI x).bind fun ds => some (ds.map .d, fun _ => True)
 | .c i => match M[i]? with
  | some (.lst xs) => some (xs, fun M' => M'[i]? = some (.lst xs))
  | _ => none
def kF (f : EF) : IPF := fun γ M => (f γ M).bind fun r => (walked r.2 r.1).bind fun p => some (p, r.2)
open Classical in
noncomputable def oC (P : Sto -> Prop) (g : GF) (b : SF) : List CD -> Ga -> Sto -> Option (Out × Sto)
 | [], γ, M => if P M then some (.nx γ, M) else none
 | x :: xs, γ, M => if P M then (g x γ M).bind fun r => (b r.1 r.2).bind fun q => match q.1 with
  | .nx γ' => oC P g b xs γ' q.2
  | .ct γ' => oC P g b xs γ' q.2
  | .bk γ' => some (.nx γ', q.2)
  | .rt x => some (.rt x, q.2) else none
noncomputable def sP (f : IPF) (g : GF) (b : SF) : SF := fun γ M => (f γ M).bind fun r => oC r.1.2 g b r.1.1 γ r.2
section
variable {K : PySem.W.Frag} {ta : TE} {f : EF} {fp : IPF} {tg : TG} {hg : GF} {t : TS} {p : SF}
theorem yD {W : Wd} {M : Sto} {H : Hp} {x : CD} {v : V} {xs : List CD} {P : Sto -> Prop} (h : walked M x = some (xs, P)) (G : Good K W M H) (r : RepV K W x v) :
 ∃ a, v = .ref a /\ ((∃ vs, SqL K H a vs) /\ (∀ W' M' H', W.Ext W' -> Good K W' M' H' -> P M' -> ∃ vs, SqL K H' a vs /\ RepVs K W' xs vs) \/ (∃ vs, SqT K H a vs) /\ ∀ W' M' H', W.Ext W' -> Good K W' M' H' -> P M' -> ∃ vs, SqT K H' a vs /\ RepVs K W' xs vs) := by
 unfold walked at h
 split at h
 · rename_i y
   obtain ⟨ds, h2, h⟩ := aH h
   cases h
   obtain ⟨a, vs, rfl, hs, hr⟩ := eZ (show Rep K W.F y v from r) h2
   refine ⟨a, rfl, ?_⟩
   rcases hs with hs | hs
   · exact .inl ⟨⟨vs, G.fh.seq hs⟩, fun W' M' H' e G' _ => ⟨vs, G'.fh.seq (e.ff.seq hs), RepVs.up (eQ hr) e⟩⟩
   · exact .inr ⟨⟨vs, G.fh.seqT hs⟩, fun W' M' H' e G' _ => ⟨vs, G'.fh.seqT (e.ff.seqT hs), RepVs.up (eQ hr) e⟩⟩
 · rename_i i
   split at h
   · rename_i ys hy
     cases h
     obtain ⟨vs, hv, hr⟩ := G.lstAt hy
     refine ⟨_, r.2, .inl ⟨⟨vs, SqL.of hv⟩, fun W' M' H' e G' hP => ?_⟩⟩
     obtain ⟨us, hu, hr'⟩ := G'.lstAt hP
     rw [e.al i r.1] at hu
     exact ⟨us, SqL.of hu, hr'⟩
   · cases h
theorem NQ (a : SE K ta f) : SIP K (OI K ta) (kF f) := by
 intro γ M xs P M' hh W H σ R G Rs k
 obtain ⟨⟨y, M1⟩, h1, hh⟩ := aH hh
 obtain ⟨q, h2, hh⟩ := aH hh
 cases hh
 refine a _ _ _ _ h1 W H σ _ G Rs fun v W1 H1 e1 G1 r1 => ?_
 obtain ⟨l, rfl, hw⟩ := yD h2 G1 r1
 refine ⟨l, rfl, ?_⟩
 rcases hw with ⟨⟨vs, hv⟩, hw⟩ | ⟨⟨vs, hv⟩, hw⟩
 · refine .inl ⟨vs, hv, k _ W1 H1 e1 G1 fun W2 M2 H2 e2 G2 hP => ?_⟩
   obtain ⟨us, hu, hr⟩ := hw W2 M2 H2 e2 G2 hP
   refine ⟨fun i x hx => ?_, us, hu, by rw [Paired.len hr]; exact Nat.le_refl _⟩
   obtain ⟨u, hu', ru⟩ := Paired.get hr hx
   refine ⟨⟨us, u, hu, hu'⟩, fun y H3 hy => ⟨W2, .refl _, by rw [hy.1]; exact G2, ?_⟩⟩
   have := hy.2 us hu
   rw [hu'] at this; cases this
   exact ru
 · refine .inr ⟨vs, hv, k _ W1 H1 e1 G1 fun W2 M2 H2 e2 G2 hP => ?_⟩
   obtain ⟨us, hu, hr⟩ := hw W2 M2 H2 e2 G2 hP
   refine ⟨fun i x hx => ?_, us, hu, by rw [Paired.len hr]; exact Nat.le_refl _⟩
   obtain ⟨u, hu', ru⟩ := Paired.get hr hx
   refine ⟨⟨us, u, hu, hu'⟩, fun y H3 hy => ⟨W2, .refl _, by rw [hy.1]; exact G2, ?_⟩⟩
   have := hy.2 us hu
   rw [hu'] at this; cases this
   exact ru
theorem ND {wi : TI} (i : SIP K wi fp) (a : SG K tg hg) (b : SS K t p) : SS K (UD wi tg t) (sP fp hg p) := by
 intro γ M o M' hh W H σ D G R k
 obtain ⟨⟨⟨xs, P⟩, M1⟩, h1, hh⟩ := aH hh
 have hh : oC P hg p xs γ M1 = some (o, M') := hh
 refine i _ _ _ _ _ h1 W H σ _ G R fun J W1 H1 e1 G1 gv => ?_
 refine ⟨fun j m σ' H' => ∃ γ' M2 W2, j <= xs.length /\ m = xs.length - j /\ W1.Ext W2 /\ Good K W2 M2 H' /\ RepS K W2 γ' σ' /\ oC P hg p (xs.drop j) γ' M2 = some (o, M'), ⟨_, γ, M1, W1, Nat.zero_le _, rfl, .refl _, G1, R.up e1, hh⟩, ?_⟩
 rintro j m σ' H' ⟨γ', M2, W2, hj, rfl, e2, G2, R2, h2⟩
 have hP : P M2 := by
  by_cases hP : P M2
  · exact hP
  · cases hd : xs.drop j <;> rw [hd] at h2 <;> unfold oC at h2 <;> rw [if_neg hP] at h2 <;> cases h2
 obtain ⟨gv1, gv2⟩ := gv W2 M2 H' e2 G2 hP
 by_cases hlt : j < xs.length
 · obtain ⟨go, yl⟩ := gv1 j xs[j] (List.getElem?_eq_getElem hlt)
   rw [List.drop_eq_getElem_cons hlt] at h2
   unfold oC at h2
   rw [if_pos hP] at h2
   refine .inr ⟨go, fun σ3 H3 => ∃ γ3 M3 W3, W2.Ext W3 /\ Good K W3 M3 H3 /\ RepS K W3 γ3 σ3 /\ oC P hg p (xs.drop (j + 1)) γ3 M3 = some (o, M'), ?_, fun y H3 hy => ?_⟩
   · rintro σ3 H3 ⟨γ3, M3, W3, e3, G3, R3, h3⟩
     exact ⟨_, by omega, γ3, M3, W3, hlt, rfl, e2.trans e3, G3, R3, h3⟩
   · obtain ⟨W8, e8, G8, ry⟩ := yl y H3 hy
     obtain ⟨⟨γ4, M4⟩, h4, h2⟩ := aH h2
     obtain ⟨⟨o5, M5⟩, h5, h2⟩ := aH h2
     refine a _ _ _ _ _ h4 W8 _ σ' y _ G8 (R2.up e8) ry fun σ4 W4 H4 e4 G4 R4 => ?_
     refine b _ _ _ _ h5 W4 H4 σ4 _ G4 R4 fun W5 H5 e5 G5 => ?_
     have e25 := (e8.trans e4).trans e5
     cases o5 with
     | nx γ5 => exact fun σ5 R5 => ⟨γ5, M5, W5, e25, G5, R5, h2⟩
     | ct γ5 => exact fun σ5 R5 => ⟨γ5, M5, W5, e25, G5, R5, h2⟩
     | bk γ5 => cases h2; exact k W5 H5 ((e1.trans e2).trans e25) G5
     | rt x => cases h2; exact k W5 H5 ((e1.trans e2).trans e25) G5
 · have e : j = xs.length := by omega
   subst e
   rw [List.drop_length] at h2
   unfold oC at h2
   rw [if_pos hP] at h2
   cases h2
   exact .inl ⟨gv2, k W2 H' (e1.trans e2) G2 σ' R2⟩
end
section
variable {ι : Type} {K : PySem.W.Frag} {X : ι -> Cx} {tg iter a : Expr} {es sts' : List Expr} {sts : List Stmt} {f : EF} {fa : AF} {gf : GF} {gs : GsF} {sf : SF} {pos : Pos}
theorem JZ (hp : ∀ i, PassesOwn (model (X i).prog (X i).w) (X i).A (X i).env (X i).xe) (hc : ∀ i, (X i).calm = true) (hK : ∀ i, (X i).K = K) (x : ME K X iter f) (y : MG K X tg gf) (z : ML K X sts sf) (hs : ∀ (env : Env) (x : Value), foldedSetIterable iter env x = pure x := by intro _ _; rfl) : MS K X (.For tg iter sts [] pos) (sP (kF f) gf sf) := by
 obtain ⟨t, x1, x2⟩ := x.ex; obtain ⟨u, y1, y2⟩ := y.ex; obtain ⟨v, z1, z2⟩ := z.ex
 exact ⟨_, fun i => FE (hp i) (hc i) (AG (hK i) (x1 i)) (y1 i) (z1 i) (hs _), ND (NQ x2) y2 z2⟩
end
end L2
end
section
set_option Elab.async false
set_option linter.all false
set_option maxRecDepth 100000
set_option maxHeartbeats 4000000
namespace L2
open PySem PySem.Spec PyProof.Rows
end L2
end
section
set_option Elab.async false
set_option linter.all false
set_option maxRecDepth 100000
set_option maxHeartbeats 4000000
namespace L2
open PySem PySem.Spec PyProof.Rows
section
variable {X : Cx} {a b : Expr} {ta : TA} {p p' pos pos' : Pos}
def oE (lo : Int) (n : Nat) : List V := (List.range n).map fun (i : Nat) => V.int (lo + (i : Nat))
theorem DJ {lo : Int} {n : Nat} {acc : Array Value} (h : ItemsOf (fun i v => ∃ t, v = .int (lo + i * 1) t) acc n) : Vals (oE lo n) acc.toList := by
 have key : ∀ (k : Nat) (l : List Value) (m : Nat), l.length = k -> (∀ j v, l[j]? = some v -> ∃ t, v = Value.int (lo + ((m + j : Nat) : Int) * 1) t) -> Vals ((List.range' m k).map fun (i : Nat) => V.int (lo + (i : Nat))) l := by
  intro k
  induction k with
  | zero => intro l m hl _; rw [List.eq_nil_of_length_eq_zero hl]; exact .nil
  | succ k ih =>
   intro l m hl hv
   match l, hl, hv with
   | v :: l, hl, hv =>
    obtain ⟨t, rfl⟩ := hv 0 v rfl
    rw [List.range'_succ, List.map_cons]
    refine .cons ⟨t, by simp⟩ (ih l (m + 1) (Nat.succ.inj hl) fun j v e => ?_)
    obtain ⟨t', e'⟩ := hv (j + 1) v e
    exact ⟨t', by rw [e']; congr 2; omega⟩
 have := key n acc.toList 0 (by rw [Array.length_toList]; exact h.1) fun j v e => by
  obtain ⟨t, e'⟩ := h.2 j v (by rw [<- Array.getElem?_toList]; exact e)
  exact ⟨t, by rw [e', Nat.zero_add]⟩
 unfold oE
 rw [List.range_eq_range']
 exact this
theorem FY {pins : List (Addr × Obj)} {σ : St} {H : Hp} {s : Shared} {Q : VK} {lo hi : Int} {t u v : Tok} {tk : Nat} (hc : X.calm = true) (I : Inv X pins σ H s) (h1 : -(2 ^ 62) <= lo) (h2 : lo < 2 ^ 62) (h3 : -(2 ^ 62) <= hi) (h4 : hi < 2 ^ 62) (hz : (hi - lo).toNat <= sizeLine)
 (q : ∀ l, H l = none -> Q (.ref l) (upd H l (.lst (oE lo (hi - lo).toNat)))) :
 wpAny (model X.prog X.w) X.A (call (.type "list") [.ref s.heap.objs.size]) (fun v s' => ∃ x H', Inv X pins σ H' s' /\ RelV x v /\ Q x H') X.xe { s with heap := s.heap.push { cls := .type "range", data := .fields #[.int lo t, .int hi u, .int 1 v] }, toks := tk } := by
 have hsz : (hi - lo).toNat <= 2 ^ 24 := by rw [sizeLine_eq] at hz; exact hz
 refine call_list_range (n := (hi - lo).toNat) (I.ok.hd hc) (IsRange.new ..) (small_one h1 h2 h3 h4) (by rw [rangeSize_one]; split <;> omega) hsz fun h' tk' acc c hk hS hacc => ?_
 have I1 : Inv X pins σ H { s with heap := s.heap.push { cls := .type "range", data := .fields #[.int lo t, .int hi u, .int 1 v] }, toks := tk } := I.kept fun b o e => Heap.get?_push_of_some _ e
 refine ⟨.ref _, upd H _ (.lst (oE lo (hi - lo).toNat)), I1.laid (t' := tk') hk (Nat.le_refl _) ⟨by rw [oE, List.length_map, List.length_range]; exact hz, acc.toList, c, DJ hacc, by simpa using hS⟩, rfl, q _ (I1.hok.fresh (Nat.le_refl _))⟩
def EB (ta : TA) : TE := fun σ H Q => ta σ H fun vs H1 => ∃ j : Int, vs = [.int j] /\ -(2 ^ 62) <= j /\ j < 2 ^ 62 /\ j.toNat <= sizeLine /\ ∀ l, H1 l = none -> Q (.ref l) (upd H1 l (.lst (oE 0 j.toNat)))
theorem HG (hc : X.calm = true) (hg : Gl X "range") (hm : X.mg "range" = none) (hgl : Gl X "list") (hml : X.mg "list" = none) (ha : PA X [a] ta) (hs : starEach [a] X.env = [(false, eval a X.env)]) :
 PE X (.Call (.Name "list" p) [.Call (.Name "range" p') [a] [] pos'] [] pos) (EB ta) := by
 intro pins s σ H Q I h
 refine wpAny_Call_Name_kw (jO I hgl hml boot_list ?_ (by decide) (by decide))
 refine PyProof.Rows.callWith_type1 ?_ rG rfl
 rw [rG]
 show wpAny _ _ (spliced ((false, eval (.Call (.Name "range" p') [a] [] pos') X.env) :: [])) _ _ s
 refine Calls.spliced_cons ?_
 refine Call_ (jO I hg hm boot_range (PyProof.Rows.callWith_type1 (thn (ha pos' pins s σ H _ I h) fun us s1 ⟨vs, H1, I1, r1, q1⟩ => ?_) hs rfl))
 obtain ⟨j, e, q1, q2, q3, q⟩ := q1
 subst e
 cases r1 with
 | cons r rr =>
  cases rr
  obtain ⟨t, rfl⟩ := r
  refine call_range_1 (Calls.spliced_nil ?_)
  exact FY hc I1 (by omega) (by omega) q1 q2 (by simpa using q3) (by simpa using q)
end
section
variable {K : PySem.W.Frag} {tA : TA} {fa : AF}
def BS (lo : Int) (n : Nat) : List PyData := (List.range n).map fun (i : Nat) => .int (lo + (i : Nat))
def qN (cell : Bool) (f : AF) : EF := fun γ M => (f γ M).bind fun r => match r.1 with
 | [.d (.int j)] => if bO j = true /\ j.toNat <= sizeLine then (if cell = true then some (.c r.2.length, r.2 ++ [.lst (cS 0 j.toNat)]) else some (.d (.list (BS 0 j.toNat)), r.2)) else none
 | _ => none
theorem NK {H : Hp} {lo : Int} {n : Nat} : RepAll K H (BS lo n) (oE lo n) := by
 unfold BS oE
 generalize List.range n = l
 induction l with
 | nil => rfl
 | cons i l ih => exact ⟨_, _, rfl, rfl, ih⟩
theorem BQ {W : Wd} {lo : Int} {n : Nat} : RepVs K W (cS lo n) (oE lo n) := by
 unfold cS oE
 generalize List.range n = l
 induction l with
 | nil => exact .nil
 | cons i l ih => exact .cons rfl ih
theorem GG {cell : Bool} (b : SA K tA fa) : SE K (EB tA) (qN cell fa) := by
 intro γ M x M' hh W H σ Q G R k
 obtain ⟨⟨ys, M1⟩, h1, hh⟩ := aH hh
 refine b _ _ _ _ h1 W H σ _ G R fun vs W1 H1 e1 G1 r1 => ?_
 revert hh
 dsimp only
 split
 · rename_i j
   intro hh
   by_cases hs : bO j = true /\ j.toNat <= sizeLine
   · rw [if_pos hs] at hh
     cases r1 with
     | cons r r' =>
      cases r'
      refine ⟨j, by rw [show _ = V.int j from r], (iJ hs.1).1, (iJ hs.1).2, hs.2, fun l hl => ?_⟩
      cases cell with
      | true =>
       rw [if_pos rfl] at hh
       cases hh
       exact k _ (W1.more l) _ (e1.trans (W1.ext_more l)) (G1.new hl (c := .lst (cS 0 j.toNat)) (o := .lst (oE 0 j.toNat)) BQ) G1.newV
      | false =>
       rw [if_neg Bool.false_ne_true] at hh
       cases hh
       obtain ⟨e2, G2⟩ := G1.lay (o := .lst (oE 0 j.toNat)) hl
       exact k _ _ _ (e1.trans e2) G2 ⟨l, _, rfl, SqL.of aR, NK⟩
   · rw [if_neg hs] at hh; cases hh
 · intro hh; cases hh
theorem JM (cell : Bool) {ι : Type} {X : ι -> Cx} {a : Expr} {p p' pos pos' : Pos} (hc : ∀ i, (X i).calm = true) (hm : ∀ i, (X i).mg "range" = none) (hml : ∀ i, (X i).mg "list" = none) (x : MA K X [a] fa) (hg : ∀ i, Gl (X i) "range" := by intro _; rfl) (hgl : ∀ i, Gl (X i) "list" := by intro _; rfl) :
 ME K X (.Call (.Name "list" p) [.Call (.Name "range" p') [a] [] pos'] [] pos) (qN cell fa) := by
 obtain ⟨t, x1, x2⟩ := x.ex
 exact ⟨_, fun i => HG (hc i) (hg i) (hm i) (hgl i) (hml i) (x1 i) (x.st.1 _), GG x2⟩
end
end L2
end
section
set_option Elab.async false
set_option linter.all false
set_option maxRecDepth 100000
set_option maxHeartbeats 4000000
namespace L2
open PySem PySem.Spec PyProof.Rows
end L2
end
section
set_option Elab.async false
set_option linter.all false
set_option maxRecDepth 100000
set_option maxHeartbeats 4000000
namespace PySem
open Sem (wp)
namespace F
end F
end PySem
namespace L2
open PySem PySem.Spec PyProof.Rows
end L2
end
section
set_option Elab.async false
set_option linter.all false
set_option maxRecDepth 100000
set_option maxHeartbeats 4000000
namespace L2
open PySem PySem.Spec PyProof.Rows
end L2
end
section
set_option Elab.async false
set_option linter.all false
set_option maxRecDepth 100000
set_option maxHeartbeats 4000000
namespace L2
open PySem PySem.Spec PyProof.Rows
theorem Room.le {ι : Type} {j k : Nat} {A : Around} {q : Bool} (r : Room k A q) (h : j <= k := by decide) : ι -> Room j A q := fun _ => r.mono h
end L2
end
section
set_option Elab.async false
set_option linter.all false
set_option maxRecDepth 100000
set_option maxHeartbeats 4000000
namespace L2
open PySem PySem.Spec PyProof.Rows
section
variable {X : Cx}
def BB : List V -> Hp -> VK -> Prop := fun xs H Q => ∃ (a : Addr) (kvs : List (Key × V)) (ns : List Int), xs = [.ref a] /\ H a = some (.dK kvs) /\ kvs.map (·.1) = ns.map .inl /\ ns.length < 64 /\
 ∀ ns' : List Int, ns'.Perm ns -> ns'.Pairwise (· <= ·) -> ∀ l, H l = none -> Q (.ref l) (upd H l (.lst (ns'.map .int)))
theorem sJ : ∀ {vs : List Value} {ns : List Int}, IntsAre vs ns -> Vals (ns.map V.int) vs
 | _, _, .nil => .nil
 | _, _, .cons _ t h => .cons ⟨t, rfl⟩ (sJ h)
theorem BM : ∀ {ws : List Value} {ns : List Int}, ws.length = ns.length -> (∀ (j : Nat) v i, ws[j]? = some v -> ns[j]? = some i -> ∃ t, v = Value.int i t) -> IntsAre ws ns
 | [], [], _, _ => .nil
 | v :: ws, n :: ns, hl, h => by
  obtain ⟨t, rfl⟩ := h 0 v n rfl rfl
  exact .cons n t (BM (Nat.succ.inj hl) fun j => h (j + 1))
theorem xA (hc : X.calm = true) : fJ X (.builtin "sorted") BB := by
 intro pins s σ H xs us Q I r h
 obtain ⟨a, kvs, ns, rfl, ea, hk, h64, q⟩ := h
 obtain ⟨u, rfl, ru⟩ := vals1 r
 cases ru
 obtain ⟨z, hs, vs, rk, dd⟩ := vY I.hok ea
 obtain ⟨ep, hat⟩ := dd.dictAt
 obtain ⟨m, F⟩ := I.fr
 have N : News X.base X.env.locals s.heap (gG X.base s.heap X.env.locals) := xD
 have hl : vs.length = ns.length := by
  have h1 : kvs.length = vs.length := Paired.len rk
  have h2 := congrArg List.length hk
  rw [List.length_map, List.length_map] at h2
  omega
 refine PySem.W.kdu_sorted (PySem.W.kdl_dict (knd := bV X.prog X.w) (kvs := vs) (ep := ep) hs) (I.ok.hd hc) F N hat (by rw [hl, sizeLine_eq]; omega) fun D h' tk ws F' N' hD hlen hw => ?_
 have hi : IntsAre ws ns := BM (by rw [hlen, hl]) fun j v i e1 e2 => by
  obtain ⟨k, x, e3, e4⟩ := hw j v e1
  have e5 : (vs.map (·.1)) = ns.map Sum.inl := by rw [<- hk]; exact (KV.keys rk).symm
  have e6 : (vs.map (·.1))[j]? = some k := by rw [List.getElem?_map, e3]; rfl
  rw [e5, List.getElem?_map, e2] at e6
  cases e6
  rw [xV] at e4
  rcases bN e4 with ⟨i', t, e7, e8⟩ | ⟨_, _, e7, _⟩
  · cases e7; exact ⟨t, e8⟩
  · cases e7
 refine PySem.W.ksk_lsort (its := ws.toArray) (n := 0) (news' := fun o => (D, o) :: gG X.base s.heap X.env.locals) F' N' (fun o => .head fun p hp => Nat.ne_of_lt (hD p hp)) (by simp) hi h64 fun ws' ns' c h'' F'' N'' hi' _ pm pw _ => ?_
 have hsz : s.heap.get? D = none := by
  have hN := N'' _ List.mem_cons_self
  cases e : s.heap.get? D with
  | none => rfl
  | some o => exact absurd (hD (D, o) (fV hN.2.1 hN.2.2 e)) (Nat.lt_irrefl _)
 have kp : ∀ b o, b ≠ X.env.locals -> s.heap.get? b = some o -> h''.get? b = some o := fun b o hb e => by
  cases z : X.base.get? b with
  | some v =>
   have := I.bk b v z
   rw [e] at this; cases this
   exact F''.keep b _ z
  | none => exact (N'' (b, o) (List.mem_cons_of_mem _ (fV hb z e))).1
 have hz : (ns'.map V.int).length <= sizeLine := by rw [List.length_map, pm.length_eq, sizeLine_eq]; omega
 have I2 : Inv X pins σ (upd H D (.lst (ns'.map .int))) { s with heap := h'' } := I.laidL kp (fun m' hm' => by rw [<- BD F.ns hm']; exact F''.ns) hsz ⟨hz, ws', c, sJ hi', (N'' _ List.mem_cons_self).1⟩
 exact ⟨.ref D, _, I2.tok tk, rfl, q ns' pm pw D (I.hok.none hsz)⟩
def zT : V -> List V -> Hp -> VK -> Prop := fun x vs H Q => ∃ a b kvs more, x = .ref a /\ vs = [.ref b] /\ H a = some (.dK kvs) /\ H b = some (.dK more) /\ a ≠ b /\ kvs.length + more.length <= sizeLine /\ Q .non (upd H a (.dK (nE kvs more)))
theorem CW : MtM X "dict.update" zT := by
 intro pins s σ H x vs v us Q I rx rv h
 obtain ⟨a, b, kvs, more, rfl, rfl, ea, eb, ne, hz, q⟩ := h
 cases rx
 obtain ⟨u, rfl, ru⟩ := rv.one
 cases ru
 obtain ⟨z, hs, vs, rk, dd⟩ := vY I.hok ea
 obtain ⟨z2, hs2, ws, rk2, dd2⟩ := vY I.hok eb
 have l1 : kvs.length = vs.length := Paired.len rk
 have l2 : more.length = ws.length := Paired.len rk2
 refine call_meetsIn PySem.F.slot_dict_update dd.typeIs PySem.F.entry_dict_update (PySem.F.args_dict_update_2 _ _) (meets_dict_update (bV X.prog X.w) a b ne hs2) ⟨vs, ws, dd, dd2, by omega, fun h' d1 _ hsb => ?_⟩
 have he : ∃ q, h'.get? a = some q := let ⟨q, _, _, hq, _⟩ := d1; ⟨q, hq⟩
 exact ⟨.non, _, lU (t' := s.toks) I (by rw [ea]; exact True.intro) hsb he (yH (Nat.le_trans (kN more kvs) hz) hs (rk2.merge rk) d1), rfl, q⟩
def DY (K : PySem.W.Frag) : V -> List V -> Hp -> VK -> Prop := fun x vs H Q => ∃ (l : Addr) (ns : List Int) (i : Int) (j : Nat), x = .ref l /\ vs = [.int i] /\ SqL K H l (ns.map .int) /\ ns.findIdx? (fun m => m == i) = some j /\ Q (.int j) H
theorem JI : MtM X "list.index" (DY X.K) := by
 intro pins s σ H x vs v us Q I rx rv h
 obtain ⟨l, ns, i, j, rfl, rfl, hq, hj, q⟩ := h
 cases rx
 obtain ⟨u, rfl, ru⟩ := rv.one
 obtain ⟨t, rfl⟩ := (show ∃ t, u = Value.int i t from ru)
 obtain ⟨its, rv', ⟨⟨oc, od, ow, osl⟩, n, e, e1, e2, e3⟩, hz⟩ := I.list hq
 dsimp only at e1 e2 e3
 subst e1 e2 e3
 obtain ⟨hj1, hj2, hj3⟩ := List.findIdx?_eq_some_iff_getElem.mp hj
 have hl : its.length = ns.length := by rw [<- rv'.length, List.length_map]
 have at_ : ∀ m (hm : m < its.toArray.size), ∃ t, its.toArray[m] = Value.int (ns[m]'(by rw [<- hl]; simpa using hm)) t := fun m hm => by
  have hm' : m < ns.length := by rw [<- hl]; simpa using hm
  obtain ⟨u, hu, t, ht⟩ := rv'.get (i := m) (x := .int ns[m]) (by rw [List.getElem?_map, List.getElem?_eq_getElem hm']; rfl)
  have : its[m]? = some u := hu
  rw [List.getElem?_eq_getElem (by simpa using hm)] at this
  cases this
  exact ⟨t, by simpa using ht⟩
 have z : sizeLine = 16777216 := sizeLine_eq
 rw [List.length_map] at hz
 refine call_meets F.slot_list_index ⟨_, e, rfl⟩ F.entry_list_index (F.args_list_index_2 _ _) (SeqAt.list_indexAt l its.toArray n none osl (.int i t) (fun y => match y with | .int a _ => a == i | _ => false) j (by simpa [hl] using hj1) (by omega) ?_ fun m hm lt => ?_) ⟨e, fun y hy => ?_, ?_⟩
 · obtain ⟨t', ht⟩ := at_ j (by simpa [hl] using hj1)
   rw [ht]; exact hj2
 · obtain ⟨t', ht⟩ := at_ m hm
   rw [ht]
   simpa using hj3 m lt
 · obtain ⟨m, hm, rfl⟩ := Array.mem_iff_getElem.mp hy
   obtain ⟨t', ht⟩ := at_ m hm
   rw [ht]
   exact SeqAt.EqAt.int_int _ _ _ _
 · exact ⟨.int j, H, I.tok _, ⟨_, rfl⟩, q⟩
end
theorem mY : ∀ {xs ys : List Int}, xs.Pairwise (· <= ·) -> ys.Pairwise (· <= ·) -> xs.Perm ys -> xs = ys
 | [], ys, _, _, p => (List.nil_perm.mp p).symm
 | x :: xs, [], _, _, p => by have := p.length_eq; simp at this
 | x :: xs, y :: ys, hx, hy, p => by
  have h1 := List.pairwise_cons.mp hx
  have h2 := List.pairwise_cons.mp hy
  have e : x = y := by
   have a : y <= x := by
    rcases List.mem_cons.mp (p.mem_iff.mp List.mem_cons_self) with q | q
    · exact Int.le_of_eq q.symm
    · exact h2.1 x q
   have b : x <= y := by
    rcases List.mem_cons.mp (p.mem_iff.mpr List.mem_cons_self) with q | q
    · exact Int.le_of_eq q.symm
    · exact h1.1 y q
   omega
  subst e
  rw [mY h1.2 h2.2 (List.perm_cons x |>.mp p)]
def sW (ns : List Int) : List Int := ns.mergeSort fun a b => decide (a <= b)
theorem oY (ns : List Int) : (sW ns).Perm ns := List.mergeSort_perm _ _
theorem lZ (ns : List Int) : (sW ns).Pairwise (· <= ·) := by
 have := List.pairwise_mergeSort (le := fun a b : Int => decide (a <= b)) (fun a b c h1 h2 => decide_eq_true (Int.le_trans (of_decide_eq_true h1) (of_decide_eq_true h2))) (fun a b => by simp; omega) ns
 exact this.imp fun h => of_decide_eq_true h
def sQ : List Key -> Option (List Int)
 | [] => some []
 | .inl i :: r => (sQ r).map (i :: ·)
 | .inr _ :: _ => none
theorem wV : ∀ {ks : List Key} {ns : List Int}, sQ ks = some ns -> ks = ns.map .inl
 | [], ns, h => by cases h; rfl
 | .inl i :: r, ns, h => by
  obtain ⟨m, h1, h2⟩ := Option.map_eq_some_iff.mp (show (sQ r).map (i :: ·) = some ns from h)
  subst h2
  rw [wV h1]; rfl
 | .inr _ :: _, ns, h => by cases h
section
variable {K : PySem.W.Frag}
def kD : FN := fun xs M => match xs with
 | [.c i] => match M[i]? with
  | some (.dk kvs) => (sQ (kvs.map (·.1))).bind fun ns => if ns.length < 64 then some (.d (.list ((sW ns).map .int)), M) else none
  | _ => none
 | _ => none
theorem GC {H : Hp} : ∀ ns : List Int, RepAll K H (ns.map .int) (ns.map .int)
 | [] => rfl
 | n :: ns => ⟨_, _, rfl, rfl, GC ns⟩
theorem sR {W : Wd} : ∀ {kvs : List (Key × CD)} {us : List (Key × V)}, PKV K W kvs us -> us.map (·.1) = kvs.map (·.1)
 | _, _, .nil => rfl
 | _, _, .cons h t => by rw [List.map_cons, List.map_cons, sR t, h.1]
theorem DO : PN K BB kD := by
 intro xs M z M' h W H vs Q G r k
 unfold kD at h
 split at h
 · rename_i i
   split at h
   · rename_i kvs hi
     obtain ⟨ns, h1, h⟩ := aH h
     by_cases hl : ns.length < 64
     · rw [if_pos hl] at h
       cases h
       obtain ⟨us, ha, hp⟩ := G.dkAt hi
       rcases r with _ | ⟨r1, _ | _⟩
       refine ⟨W.α i, us, ns, by rw [r1.2], ha, by rw [sR hp]; exact wV h1, hl, fun ns' pm pw l hln => ?_⟩
       have e : ns' = sW ns := mY pw (lZ ns) (pm.trans (oY ns).symm)
       subst e
       obtain ⟨e2, G2⟩ := G.lay (o := .lst ((sW ns).map .int)) hln
       exact k _ _ _ e2 G2 ⟨l, _, rfl, SqL.of aR, GC _⟩
     · rw [if_neg hl] at h; cases h
   · cases h
 · cases h
theorem HK {ι : Type} {X : ι -> Cx} (hc : ∀ i, (X i).calm = true) : QN K X (.builtin "sorted") kD := ⟨_, fun i => xA (hc i), DO⟩
def uV (kvs more : List (Key × CD)) : List (Key × CD) := more.foldl (fun acc kv => putD acc kv.1 kv.2) kvs
theorem pV {W : Wd} : ∀ {more : List (Key × CD)} {ms : List (Key × V)} {kvs : List (Key × CD)} {us : List (Key × V)}, PKV K W more ms -> PKV K W kvs us -> PKV K W (uV kvs more) (nE us ms)
 | _, _, _, _, .nil, h => h
 | _, _, kvs, us, .cons (a := p) (b := q) (l₁ := ps) (l₂ := qs) r1 r2, h => by
  obtain ⟨p1, p2⟩ := p
  obtain ⟨q1, q2⟩ := q
  have e : p1 = q1 := r1.1
  subst e
  exact pV (kvs := putD kvs p1 p2) (us := putK us p1 q2) r2 (nF h r1.2)
def jZ : FM := fun x ys M => match x, ys with
 | .c i, [.c j] => if i = j then none else match M[i]?, M[j]? with
  | some (.dk kvs), some (.dk more) => if kvs.length + more.length <= sizeLine then some (.d .none, M.set i (.dk (uV kvs more))) else none
  | _, _ => none
 | _, _ => none
theorem BR : PM K zT jZ := by
 intro x ys M z M' h W H v vs Q G rx rs k
 unfold jZ at h
 split at h
 · rename_i i j
   by_cases ij : i = j
   · rw [if_pos ij] at h; cases h
   · rw [if_neg ij] at h
     split at h
     · rename_i kvs more hi hj
       by_cases hl : kvs.length + more.length <= sizeLine
       · rw [if_pos hl] at h
         cases h
         obtain ⟨us, ha, hp⟩ := G.dkAt hi
         obtain ⟨ms, hb, hq⟩ := G.dkAt hj
         rcases rs with _ | ⟨r1, _ | _⟩
         refine ⟨W.α i, W.α j, us, ms, rx.2, by rw [r1.2], ha, hb, fun e => ij (G.inj i j _ _ hi hj (by intro q; cases q) (by intro q; cases q) e), by rw [<- Paired.len hp, <- Paired.len hq]; exact hl, ?_⟩
         exact k _ W _ (.refl _) (G.set hi (by intro q; cases q) (c' := .dk (uV kvs more)) (o' := .dK (nE us ms)) (pV hq hp)) rfl
       · rw [if_neg hl] at h; cases h
     · cases h
 · cases h
def intsOf : List CD -> Option (List Int)
 | [] => some []
 | .d (.int i) :: r => (intsOf r).map (i :: ·)
 | _ :: _ => none
theorem rZ {W : Wd} : ∀ {xs : List CD} {ns : List Int} {vs : List V}, intsOf xs = some ns -> RepVs K W xs vs -> vs = ns.map .int
 | [], ns, vs, h, r => by cases h; cases r; rfl
 | .d (.int i) :: xs, ns, vs, h, r => by
  obtain ⟨m, h1, h2⟩ := Option.map_eq_some_iff.mp (show (intsOf xs).map (i :: ·) = some ns from h)
  subst h2
  cases r with
  | cons r1 r2 => rw [rZ h1 r2, show _ = V.int i from r1]; rfl
def kT : FM := fun x ys M => match ys with
 | [.d (.int i)] => (qQ M x).bind fun xs => (intsOf xs).bind fun ns => (ns.findIdx? fun m => m == i).bind fun j => some (.d (.int (j : Nat)), M)
 | _ => none
theorem ER : PM K (DY K) kT := by
 intro x ys M z M' h W H v vs Q G rx rs k
 unfold kT at h
 split at h
 · rename_i i
   obtain ⟨xs, h1, h⟩ := aH h
   obtain ⟨ns, h2, h⟩ := aH h
   obtain ⟨j, h3, h⟩ := aH h
   cases h
   rcases rs with _ | ⟨r1, _ | _⟩
   obtain ⟨p, us, rfl, hq, hr⟩ := mJ G h1 rx
   have e := rZ h2 hr
   subst e
   exact ⟨p, ns, i, j, rfl, by rw [show _ = V.int i from r1], hq, h3, k _ W H (.refl _) G rfl⟩
 · cases h
end
section
variable {ι : Type} {K : PySem.W.Frag} {X : ι -> Cx} {e o : Expr} {f : EF} {fa : AF} {apos cpos : Pos}
theorem DB (hK : ∀ i, (X i).K = K) (x : ME K X o f) (y : MA K X [e] fa) (hb : ∀ env : Env, attributeBase o "update" env (eval o env) = eval o env := by intro _; rfl) (hl : (apos.endLine == cpos.line) = true := by rfl) :
 ME K X (.Call (.Attribute o "update" apos) [e] [] cpos) (cX "dict" jZ f fa) := by
 obtain ⟨t, x1, x2⟩ := x.ex; obtain ⟨u, y1, y2⟩ := y.ex
 refine ⟨_, fun i => ?_, tV BR x2 y2⟩
 have := HC PySem.F.plainAttrs_dict PySem.F.slot_dict_update PySem.F.type_dict_update CW (x1 i) (y1 i) (apos := apos) (cpos := cpos) (hb _) (by rw [y.st.1]; rfl) hl (y.st.1 _) (y.st.2.plain _ _)
 rw [hK i] at this
 exact this
theorem HS (hK : ∀ i, (X i).K = K) (x : ME K X o f) (y : MA K X [e] fa) (hb : ∀ env : Env, attributeBase o "index" env (eval o env) = eval o env := by intro _; rfl) (hl : (apos.endLine == cpos.line) = true := by rfl) :
 ME K X (.Call (.Attribute o "index" apos) [e] [] cpos) (cX "list" kT f fa) := by
 obtain ⟨t, x1, x2⟩ := x.ex; obtain ⟨u, y1, y2⟩ := y.ex
 refine ⟨_, fun i => ?_, tV ER x2 y2⟩
 have := HC PySem.F.plainAttrs_list PySem.F.slot_list_index PySem.F.type_list_index JI (x1 i) (y1 i) (apos := apos) (cpos := cpos) (hb _) (by rw [y.st.1]; rfl) hl (y.st.1 _) (y.st.2.plain _ _)
 rw [hK i] at this
 exact this
end
end L2
end
section
set_option Elab.async false
set_option linter.all false
set_option maxRecDepth 100000
set_option maxHeartbeats 4000000
noncomputable section
namespace Q8
open PySem PySem.Spec PyProof.Rows L2
def top (i : Nat) : Stmt := PySem.Challenge.pw_cutstree_k08_pieces.main.body.getD i (.Pass ⟨0, 0, 0, 0⟩)
abbrev fO : Stmt := top 30
theorem sc__law_stream : aT ["_law_script", "_law_k", "_law_cell", "_law_mixed"] ["_law_script", "_law_k"] (aE fO) := ⟨rfl, rfl, rfl, by decide +kernel, rfl, by decide +kernel, by decide +kernel⟩
def dN : SF := (aZ (sIf (gB (fOp ltI (aD 1) (aJ oI (aC (aD 0) aI))))
 (aZ (bU (fOp ixF (aD 0) (aD 1)) (hName 2))
 (aZ (bU (fOp gS (fOp gS (fOp lP (aD 2) (fC (.int 2147483629))) (fOp yC (aD 1) (aD 1))) (fC (.int 1))) (hName 3))
 (aZ (sIf (gB (fOp ltI (aD 2) (fOp zK (fC (.int 10)) (fC (.int 18)))))
  (bU (fC (.int 0)) (hName 2))
  eB)
 (cO (mC (aC (aD 2) (aC (aD 3) aI)))))))
  eB)
 (cO (mC (aC (fC (.int 0)) (aC (fOp gS (fOp yC (aD 1) (aD 1)) (fC (.int 11))) aI)))))
def bL : FN := fnF 2 4 dN
abbrev hW : Stmt := top 31
theorem sc__law_take : aT ["_law_stream_here", "_law_most", "_law_digit"] ["_law_stream_here", "_law_most"] (aE hW) := ⟨rfl, rfl, rfl, by decide +kernel, rfl, by decide +kernel, by decide +kernel⟩
def gA : SF := (aZ (sIf (gB (fOp (eqX false) (fOp ixF (aD 0) (fC (.int 0))) (fC (.int 0))))
 (aZ (bU (fOp lP (fOp gS (fOp yC (fOp ixF (aD 0) (fC (.int 1))) (fC (.int 48271))) (fC (.int 12345))) (fC (.int 2147483647))) (hSub (aD 0) (fC (.int 1)) tK))
 (cO (fOp lP (fOp lP (fOp yC (fOp ixF (aD 0) (fC (.int 1))) (fOp ixF (aD 0) (fC (.int 1)))) (fC (.int 2147483629))) (aD 1))))
  eB)
 (aZ (bU (fOp lP (fOp ixF (aD 0) (fC (.int 0))) (aD 1)) (hName 2))
 (aZ (bU (fOp rW (fOp ixF (aD 0) (fC (.int 0))) (aD 1)) (hSub (aD 0) (fC (.int 0)) tK))
 (cO (aD 2)))))
def aS : FN := fnF 2 3 gA
abbrev iH : Stmt := top 32
theorem uO : aT ["_law_stream_here", "_law_some"] ["_law_stream_here", "_law_some"] (aE iH) := ⟨rfl, rfl, rfl, by decide +kernel, rfl, by decide +kernel, by decide +kernel⟩
def iW : SF := (cO (fOp ixF (aD 1) (aJ aS (aC (aD 0) (aC (aJ oI (aC (aD 1) aI)) aI)))))
def fY : FN := fnF 2 2 iW
abbrev gR : Stmt := top 33
theorem sc__law_least : aT ["_law_above", "_law_below", "_law_one", "_law_other"] ["_law_above", "_law_below"] (aE gR) := ⟨rfl, rfl, rfl, by decide +kernel, rfl, by decide +kernel, by decide +kernel⟩
def jM : SF := (jI (gB (fOp gtI (aD 3) (fC (.int 0)))) (vE 2 3 (aC (aD 3) (aC (fOp lP (aD 2) (aD 3)) aI))))
def hV : SF := (aZ (bU (aD 0) (hName 2))
 (aZ (bU (aD 1) (hName 3))
 (aZ jM
 (cO (fE (aC (fOp rW (aD 0) (aD 2)) (aC (fOp rW (aD 1) (aD 2)) aI)))))))
def fD : FN := fnF 2 4 hV
abbrev fN : Stmt := top 34
theorem sc__law_weight : aT ["_law_stream_here", "_law_kind", "_law_below", "_law_above"] ["_law_stream_here"] (aE fN) := ⟨rfl, rfl, rfl, by decide +kernel, rfl, by decide +kernel, by decide +kernel⟩
def iQ : EF := (nB (aC (fE (aC (fC (.int 1)) (aC (fC (.int 1)) aI))) (aC (fE (aC (fC (.int 1)) (aC (fC (.int 1)) aI))) (aC (fE (aC (fC (.int 2)) (aC (fC (.int 1)) aI))) (aC (fE (aC (fC (.int 1)) (aC (fC (.int 2)) aI))) (aC (fE (aC (fC (.int 3)) (aC (fC (.int 4)) aI))) (aC (fE (aC (fC (.int 0)) (aC (fC (.int 1)) aI))) aI)))))))
def iR : EF := (nB (aC (fC (.int 1)) (aC (fC (.int 2)) (aC (fC (.int 3)) (aC (fC (.int 5)) (aC (fC (.int 7)) (aC (fC (.int 8)) (aC (fC (.int 9)) (aC (fC (.int 11)) (aC (fC (.int 12)) (aC (fC (.int 16)) (aC (fC (.int 35)) (aC (fC (.int 99)) (aC (fC (.int 720)) (aC (fC (.int 5040)) (aC (fC (.int 27720)) (aC (fC (.int 55440)) aI)))))))))))))))))
def dG : SF := (aZ (bU (aJ aS (aC (aD 0) (aC (fC (.int 8)) aI))) (hName 1))
 (aZ (sIf (gB (fOp ltI (aD 1) (fC (.int 6))))
  (cO (fOp ixF iQ (aD 1)))
  eB)
 (aZ (bU (aJ fY (aC (aD 0) (aC iR aI))) (hName 2))
 (aZ (bU (aJ aS (aC (aD 0) (aC (fC (.int 1000)) aI))) (hName 3))
 (aZ (sIf (gB (fOp (eqX false) (aD 1) (fC (.int 7))))
  (bU (fOp ixF (nB (aC (fOp zK (fC (.int 10)) (fC (.int 12))) (aC (fOp NP (fOp zK (fC (.int 10)) (fC (.int 12))) (fC (.int 1))) (aC (fC (.int 1)) (aC (fOp gS (fOp zK (fC (.int 10)) (fC (.int 9))) (aJ aS (aC (aD 0) (aC (fC (.int 1000)) aI)))) aI))))) (aJ aS (aC (aD 0) (aC (fC (.int 4)) aI)))) (hName 3))
  eB)
 (cO (aJ fD (aC (aD 3) (aC (aD 2) aI)))))))))
def cB : FN := fnF 1 4 dG
abbrev hZ : Stmt := top 35
theorem sc__law_ties : aT ["_law_stream_here", "_law_many", "_law_share", "_law_found", "_law_j", "_law_i", "_law_at"] ["_law_stream_here", "_law_many"] (aE hZ) := ⟨rfl, rfl, rfl, by decide +kernel, rfl, by decide +kernel, by decide +kernel⟩
def cJ : SF := (sIf (gB (fOp ltI (aJ aS (aC (aD 0) (aC (fC (.int 4)) aI))) (aD 2)))
 (aZ (bU (aJ aS (aC (aD 0) (aC (fOp gS (aJ oI (aC (aD 3) aI)) (fC (.int 1))) aI))) (hName 6))
 (bU (fOp gS (fOp gS (fSl (aD 3) mD (vN (aD 6))) (nB (aC (fE (aC (aD 5) (aC (aD 4) (aC (aJ cB (aC (aD 0) aI)) aI)))) aI))) (fSl (aD 3) (vN (aD 6)) mD)) (hName 3)))
  eB)
def cK : SF := (kH (cZ (aC (aD 4) aI)) (hName 5) cJ)
def jP : SF := (aZ (bU (aJ aS (aC (aD 0) (aC (fC (.int 4)) aI))) (hName 2))
 (aZ (bU (nB aI) (hName 3))
 (aZ (kH (cZ (aC (aD 1) aI)) (hName 4) cK)
 (cO (aD 3)))))
def eO : FN := fnF 2 7 jP
abbrev dC : Stmt := top 3
theorem sc_places_beside : aT ["many", "pairs", "beside", "one", "other"] ["many", "pairs"] (aE dC) := ⟨rfl, rfl, rfl, by decide +kernel, rfl, by decide +kernel, by decide +kernel⟩
def eD : EF := (JP [none] (cZ (aC (aD 0) aI)) (hName 0) fS (mC aI))
def bX : SF := (aZ (kK (cX "list" bW (fOp ixF (aD 2) (aD 3)) (aC (aD 4) aI)))
 (kK (cX "list" bW (fOp ixF (aD 2) (aD 4)) (aC (aD 3) aI))))
def eT : SF := (aZ (bU eD (hName 2))
 (aZ (kH (bZ (aD 1)) (gO 2 (aX (hName 3) (aX (hName 4) gM))) bX)
 (cO (aD 2))))
def cH : FN := fnF 2 5 eT
abbrev dO : Stmt := top 1
theorem sc_reached_from : aT ["beside", "places", "found", "waiting", "here", "there"] ["beside", "places"] (aE dO) := ⟨rfl, rfl, rfl, by decide +kernel, rfl, by decide +kernel, by decide +kernel⟩
def eF : EF := (fDc (.dk []) [none] (bZ (aD 1)) (hName 0) fS (mN (aD 0)) (fC (.bool true)))
def bK : SF := (sIf (gB (oK true (mN (aD 5)) (aD 2)))
 (aZ (mG (aD 2) (mN (aD 5)) (fC (.bool true)))
 (kK (cX "list" bW (aD 3) (aC (aD 5) aI))))
  eB)
def gZ : SF := (jI (rA (aD 3)) (aZ (bU (cX "list" zF (aD 3) aI) (hName 4))
 (sP (kF (fOp ixF (aD 0) (aD 4))) (hName 5) bK)))
def fL : SF := (aZ (bU eF (hName 2))
 (aZ (bU (aJ vA (aC (aD 1) aI)) (hName 3))
 (aZ gZ
 (cO (aJ cA (aC (aJ kD (aC (aD 2) aI)) aI))))))
def cU : FN := fnF 2 6 fL
abbrev fB : Stmt := top 2
theorem sc_joined_by : aT ["many", "pairs", "beside", "seen", "found", "place", "row"] ["many", "pairs"] (aE fB) := ⟨rfl, rfl, rfl, by decide +kernel, rfl, by decide +kernel, by decide +kernel⟩
def gJ : EF := (fDc (.dk []) [none] (bZ (aD 6)) (hName 0) fS (mN (aD 0)) (fC (.bool true)))
def dJ : SF := (sIf (gB (oK true (mN (aD 5)) (aD 3)))
 (aZ (bU (aJ cU (aC (aD 2) (aC (fE (aC (aD 5) aI)) aI))) (hName 6))
 (aZ (kK (cX "dict" jZ (aD 3) (aC gJ aI)))
 (kK (cX "list" bW (aD 4) (aC (aD 6) aI)))))
  eB)
def iX : SF := (aZ (bU (aJ cH (aC (aD 0) (aC (aD 1) aI))) (hName 2))
 (aZ (bU uC (hName 3))
 (aZ (bU (mC aI) (hName 4))
 (aZ (kH (cZ (aC (aD 0) aI)) (hName 5) dJ)
 (cO (aJ cA (aC (aD 4) aI)))))))
def gF : FN := fnF 2 7 iX
abbrev jY : Stmt := top 5
theorem BY : aT ["web"] ["web"] (aE jY) := ⟨rfl, rfl, rfl, by decide +kernel, rfl, by decide +kernel, by decide +kernel⟩
def iB : EF := (fLc [none, none, none] (bZ (lD "Web" "ties" (aD 0))) (gO 3 (aX (hName 0) (aX (hName 1) (aX (hName 2) gM)))) fS (fE (aC (aD 0) (aC (aD 1) aI))))
def qE : SF := (cO (aJ gF (aC (lD "Web" "many" (aD 0)) (aC iB aI))))
def gV : FN := fnF 1 1 qE
abbrev jS : Stmt := top 11
theorem vS : aT ["thing"] ["thing"] (aE jS) := ⟨rfl, rfl, rfl, by decide +kernel, rfl, by decide +kernel, by decide +kernel⟩
def pO : SF := (cO (kY (FJ "int" (aD 0)) (LC (FJ "bool" (aD 0)))))
def dR : FN := fnF 1 1 pO
abbrev mZ : Stmt := top 12
theorem DP : aT ["thing"] ["thing"] (aE mZ) := ⟨rfl, rfl, rfl, by decide +kernel, rfl, by decide +kernel, by decide +kernel⟩
def vF : SF := (cO (zN "list" "tuple" (aD 0)))
def lQ : FN := fnF 1 1 vF
abbrev mI : Stmt := top 23
theorem sc_common : aT ["one", "other"] ["one", "other"] (aE mI) := ⟨rfl, rfl, rfl, by decide +kernel, rfl, by decide +kernel, by decide +kernel⟩
def kX : SF := (jI (rA (aD 1)) (vE 0 1 (aC (aD 1) (aC (fOp lP (aD 0) (aD 1)) aI))))
def xC : SF := (aZ kX
 (cO (aD 0)))
def pW : FN := fnF 2 2 xC
abbrev iI : Stmt := top 13
theorem uF : aT ["thing", "length"] ["thing", "length"] (aE iI) := ⟨rfl, rfl, rfl, by decide +kernel, rfl, by decide +kernel, by decide +kernel⟩
def nM : SF := (cO (kY (aJ lQ (aC (aD 0) aI)) (fOp (eqX false) (aJ oI (aC (aD 0) aI)) (aD 1))))
def gH : FN := fnF 2 2 nM
abbrev cQ : Stmt := top 22
theorem iS : aT ["thing"] ["thing"] (aE cQ) := ⟨rfl, rfl, rfl, by decide +kernel, rfl, by decide +kernel, by decide +kernel⟩
def bM : SF := (aZ (sIf (gOr (uW (gB (aJ gH (aC (aD 0) (aC (fC (.int 2)) aI))))) (gOr (uW (gB (aJ dR (aC (fOp ixF (aD 0) (fC (.int 0))) aI)))) (uW (gB (aJ dR (aC (fOp ixF (aD 0) (fC (.int 1))) aI))))))
 (cO (fC (.bool false)))
 eB)
 (cO (kY (fOp geI (fOp ixF (aD 0) (fC (.int 0))) (fC (.int 0))) (fOp geI (fOp ixF (aD 0) (fC (.int 1))) (fC (.int 1))))))
def bB : FN := fnF 1 1 bM
abbrev fH : Stmt := top 21
theorem pE : aT ["thing"] ["thing"] (aE fH) := ⟨rfl, rfl, rfl, by decide +kernel, rfl, by decide +kernel, by decide +kernel⟩
def cI : SF := (cO (kY (aJ bB (aC (aD 0) aI)) (kY (fOp (eqX false) (fOp lP (fC (.int 55440)) (fOp ixF (aD 0) (fC (.int 1)))) (fC (.int 0))) (fOp (eqX false) (aJ pW (aC (fOp ixF (aD 0) (fC (.int 0))) (aC (fOp ixF (aD 0) (fC (.int 1))) aI))) (fC (.int 1))))))
def bS : FN := fnF 1 1 cI
abbrev iL : Stmt := top 20
theorem tD : aT ["thing"] ["thing"] (aE iL) := ⟨rfl, rfl, rfl, by decide +kernel, rfl, by decide +kernel, by decide +kernel⟩
def eM : SF := (cO (kY (aJ bS (aC (aD 0) aI)) (fOp leI (fOp ixF (aD 0) (fC (.int 0))) (fC (.int 1000000000000)))))
def dB : FN := fnF 1 1 eM
abbrev jL : Stmt := top 14
theorem xF : aT ["many", "thing"] ["many", "thing"] (aE jL) := ⟨rfl, rfl, rfl, by decide +kernel, rfl, by decide +kernel, by decide +kernel⟩
def iA : SF := (cO (kY (aJ dR (aC (aD 1) aI)) (uE leI ltI (fC (.int 0)) (aD 1) (aD 0))))
def eJ : FN := fnF 2 2 iA
abbrev dA : Stmt := top 15
theorem jG : aT ["many", "i", "j"] ["many", "i", "j"] (aE dA) := ⟨rfl, rfl, rfl, by decide +kernel, rfl, by decide +kernel, by decide +kernel⟩
def bQ : SF := (cO (kY (aJ eJ (aC (aD 0) (aC (aD 1) aI))) (kY (aJ eJ (aC (aD 0) (aC (aD 2) aI))) (fOp (eqX true) (aD 1) (aD 2)))))
def bH : FN := fnF 3 3 bQ
abbrev cW : Stmt := top 16
theorem jK : aT ["many", "thing"] ["many", "thing"] (aE cW) := ⟨rfl, rfl, rfl, by decide +kernel, rfl, by decide +kernel, by decide +kernel⟩
def bR : SF := (cO (kY (aJ gH (aC (aD 1) (aC (fC (.int 3)) aI))) (kY (aJ bH (aC (aD 0) (aC (fOp ixF (aD 1) (fC (.int 0))) (aC (fOp ixF (aD 1) (fC (.int 1))) aI)))) (fOp ltI (fOp ixF (aD 1) (fC (.int 0))) (fOp ixF (aD 1) (fC (.int 1)))))))
def aW : FN := fnF 2 2 bR
abbrev mU : Stmt := top 28
theorem DC : aT ["many", "thing"] ["many", "thing"] (aE mU) := ⟨rfl, rfl, rfl, by decide +kernel, rfl, by decide +kernel, by decide +kernel⟩
def hJ : SF := (cO (kY (aJ aW (aC (aD 0) (aC (aD 1) aI))) (aJ dB (aC (fOp ixF (aD 1) (fC (.int 2))) aI))))
def fF : FN := fnF 2 2 hJ
abbrev eY : Stmt := top 27
theorem sc_kept_ties : aT ["many", "ties", "weights", "at", "row"] ["many", "ties"] (aE eY) := ⟨rfl, rfl, rfl, by decide +kernel, rfl, by decide +kernel, by decide +kernel⟩
def dH : SF := (aZ (sIf (gOr (uW (gB (aJ fF (aC (aD 0) (aC (aD 4) aI))))) (gB (oK false (uP (aC (fOp ixF (aD 4) (fC (.int 0))) (aC (fOp ixF (aD 4) (fC (.int 1))) aI))) (aD 2))))
 tI
 eB)
 (mG (aD 2) (uP (aC (fOp ixF (aD 4) (fC (.int 0))) (aC (fOp ixF (aD 4) (fC (.int 1))) aI))) (aJ cA (aC (fOp ixF (aD 4) (fC (.int 2))) aI))))
def gK : EF := (fLc [none, none, none] (bZ (mV (aD 2))) (gO 2 (aX (gO 2 (aX (hName 0) (aX (hName 1) gM))) (aX (hName 2) gM))) (gB (fOp gtI (fOp ixF (aD 2) (fC (.int 0))) (fC (.int 0)))) (fE (aC (aD 0) (aC (aD 1) (aC (aD 2) aI)))))
def jR : SF := (aZ (sIf (uW (gB (aJ lQ (aC (aD 1) aI))))
 tI
 eB)
 (aZ (bU tO (hName 2))
 (aZ (kH (qP (aC (aD 1) aI)) (gO 2 (aX (hName 3) (aX (hName 4) gM))) dH)
 (cO (aJ cA (aC gK aI))))))
def eP : FN := fnF 2 5 jR
abbrev dE : Stmt := inClass (top 26) 0
theorem tL : aT ["self", "many", "ties"] ["self", "many", "ties"] (aE dE) := ⟨rfl, rfl, rfl, by decide +kernel, rfl, by decide +kernel, by decide +kernel⟩
def gT : EF := (fDc (.dt []) [none, none, none] (bZ (lD "Web" "ties" (aD 0))) (gO 3 (aX (hName 0) (aX (hName 1) (aX (hName 2) gM)))) fS (uP (aC (aD 0) (aC (aD 1) aI))) (aD 2))
def iZ : SF := (aZ (sIf (gOr (uW (gB (aJ dR (aC (aD 1) aI)))) (gOr (gB (fOp ltI (aD 1) (fC (.int 1)))) (gB (fOp gtI (aD 1) (fC (.int 40))))))
 tI
 eB)
 (aZ (rQ "Web" "many" (aD 0) (aD 1))
 (aZ (rQ "Web" "ties" (aD 0) (aJ eP (aC (aD 1) (aC (aD 2) aI))))
 (rQ "Web" "weights" (aD 0) gT))))
def cD : FN := fnF 3 3 iZ
abbrev cV : Stmt := top 37
theorem sc__law_joined : aT ["_law_many", "_law_ties_here", "_law_heap", "_law_i", "_law_j", "_law_weight_here", "_law_old", "_law_found", "_law_place"] ["_law_many", "_law_ties_here"] (aE cV) := ⟨rfl, rfl, rfl, by decide +kernel, rfl, by decide +kernel, by decide +kernel⟩
def eW : EF := (fLc [some 6, some 2, some 3, none] (bZ (aD 2)) (hName 3) fS (fIf (gB (fOp (eqX false) (aD 3) (aD 0))) (fOp ixF (aD 1) (aD 2)) (aD 3)))
def bP : SF := (sIf (JY (gB (fOp gtI (fOp ixF (aD 5) (fC (.int 0))) (fC (.int 0)))) (gB (fOp (eqX true) (fOp ixF (aD 2) (aD 3)) (fOp ixF (aD 2) (aD 4)))))
 (aZ (bU (fOp ixF (aD 2) (aD 4)) (hName 6))
 (bU eW (hName 2)))
  eB)
def dQ : EF := (fLc [some 2, some 8, none] (cZ (aC (aD 0) aI)) (hName 2) (gB (fOp (eqX false) (fOp ixF (aD 0) (aD 2)) (fOp ixF (aD 0) (aD 1)))) (aD 2))
def cG : SF := (sIf (gB (fOp (eqX false) (cX "list" kT (aD 2) (aC (fOp ixF (aD 2) (aD 8)) aI)) (aD 8)))
 (kK (cX "list" bW (aD 7) (aC (aJ cA (aC dQ aI)) aI)))
 eB)
def gL : SF := (aZ (bU (qN false (aC (aD 0) aI)) (hName 2))
 (aZ (kH (bZ (aD 1)) (gO 3 (aX (hName 3) (aX (hName 4) (aX (hName 5) gM)))) bP)
 (aZ (bU (mC aI) (hName 7))
 (aZ (kH (cZ (aC (aD 0) aI)) (hName 8) cG)
 (cO (aJ cA (aC (aD 7) aI)))))))
def cL : FN := fnF 2 9 gL
abbrev qI : Stmt := top 38
theorem sc_law : aT ["_law_script", "_law_k", "_law_stream_here", "_law_many", "_law_ties_here", "_law_ring", "_law_cut"] ["_law_script"] (aE qI) := ⟨rfl, rfl, rfl, by decide +kernel, rfl, by decide +kernel, by decide +kernel⟩
def oO : SF := (aZ (bU (aJ bL (aC (aD 0) (aC (aD 1) aI))) (hName 2))
 (aZ (bU (fOp gS (fC (.int 1)) (aJ aS (aC (aD 2) (aC (fC (.int 9)) aI)))) (hName 3))
 (aZ (bU (aJ eO (aC (aD 2) (aC (aD 3) aI))) (hName 4))
 (sIf (gB (fOp (eqX true) (aJ iN (aC (aJ gV (aC (nX "Web" cD (aC (aD 3) (aC (aJ kL (aC (aD 4) aI)) aI))) aI)) aI)) (aJ iN (aC (aJ cL (aC (aD 3) (aC (aD 4) aI))) aI))))
  (cO (fC (.bool false)))
  eB))))
def tY : EF := (fE (aC (fC (.int 1)) (aC (fC (.int 2)) aI)))
theorem HA (γ : Ga) (M : Sto) : tY γ M = some (.d (.tuple [(.int 1), (.int 2)]), M) := rfl
def oP : EF := (fLc [none] (cZ (aC (fC (.int 39)) aI)) (hName 0) fS (fE (aC (aD 0) (aC (fOp gS (aD 0) (fC (.int 1))) (aC tY aI)))))
def tP : EF := (nB (aC (fE (aC (fC (.int 0)) (aC (fC (.int 39)) (aC (fE (aC (fC (.int 1)) (aC (fC (.int 2)) aI))) aI)))) aI))
theorem GN (γ : Ga) (M : Sto) : tP γ M = some (.d (.list [(.tuple [(.int 0), (.int 39), (.tuple [(.int 1), (.int 2)])])]), M) := rfl
def uM : EF := (fLc [some 6, none, none] (qP (aC (aD 5) aI)) (gO 2 (aX (hName 1) (aX (hName 2) gM))) (gB (fOp (inD true) (aD 1) (aD 0))) (aD 2))
def IS : SF := (aZ (kH (cZ (aC (fC (.int 6)) aI)) (hName 1) oO)
 (aZ (bU (aJ bL (aC (aD 0) (aC (fC (.int 6)) aI))) (hName 2))
 (aZ (bU (fOp gS oP tP) (hName 5))
 (aZ (bU (nB (aC (aJ aS (aC (aD 2) (aC (fC (.int 40)) aI))) (aC (aJ aS (aC (aD 2) (aC (fC (.int 40)) aI))) aI))) (hName 6))
 (aZ (bU uM (hName 4))
 (cO (fOp (eqX false) (aJ iN (aC (aJ gV (aC (nX "Web" cD (aC (fC (.int 40)) (aC (aJ kL (aC (aD 4) aI)) aI))) aI)) aI)) (aJ iN (aC (aJ cL (aC (fC (.int 40)) (aC (aD 4) aI))) aI)))))))))
def F_law : FN := fnF 1 7 IS
structure Txt (K : PySem.W.Frag) (mg : Str -> Option Value) : Prop where
 hB : Free mg ["bool", "enumerate", "int", "isinstance", "len", "list", "range", "repr", "sorted", "tuple"]
 c_MOST_ABOVE : ∃ t : Tok, mg "MOST_ABOVE" = some (.int 1000000000000 t)
 c_BELOW : ∃ t : Tok, mg "BELOW" = some (.int 55440 t)
 c_MOST_PLACES : ∃ t : Tok, mg "MOST_PLACES" = some (.int 40 t)
 m_Web : mg "Web" = some (.ref (dU K "Web"))
 cl_Web : Cls K (dU K "Web")
 na_Web_ties : NoAttr K (dU K "Web") "ties"
 na_Web_many : NoAttr K (dU K "Web") "many"
 na_Web_weights : NoAttr K (dU K "Web") "weights"
 mm_Web__init : MDef K "Web" "__init__" "Web.__init__" dE
 mk_Web : PySem.W.makesIn K (dU K "Web") = true
 kp_Web : PySem.W.keepIn K (.ref (dU K "Web")) = true
 d__law_stream : Def K mg "_law_stream" fO
 d__law_take : Def K mg "_law_take" hW
 d__law_pick : Def K mg "_law_pick" iH
 d__law_least : Def K mg "_law_least" gR
 d__law_weight : Def K mg "_law_weight" fN
 d__law_ties : Def K mg "_law_ties" hZ
 d_places_beside : Def K mg "places_beside" dC
 d_reached_from : Def K mg "reached_from" dO
 d_joined_by : Def K mg "joined_by" fB
 d_pieces : Def K mg "pieces" jY
 d_is_whole : Def K mg "is_whole" jS
 d_is_row : Def K mg "is_row" mZ
 d_common : Def K mg "common" mI
 d_is_row_of : Def K mg "is_row_of" iI
 d_has_amount_numbers : Def K mg "has_amount_numbers" cQ
 d_is_in_parts : Def K mg "is_in_parts" fH
 d_is_weight : Def K mg "is_weight" iL
 d_is_place : Def K mg "is_place" jL
 d_are_unlike_places : Def K mg "are_unlike_places" dA
 d_is_between_places : Def K mg "is_between_places" cW
 d_is_tie : Def K mg "is_tie" mU
 d_kept_ties : Def K mg "kept_ties" eY
 d__law_joined : Def K mg "_law_joined" cV
 d_law : Def K mg "law" qI
section
variable {P : Program} {w : World} {K : PySem.W.Frag} {mg : Str -> Option Value} {base : Heap}
theorem jD (T : Txt K mg) : Callee P w K mg base 1 "_law_stream" ["_law_script", "_law_k"] (spM K bL) :=
 T.d__law_stream.okG (N := ["_law_script", "_law_k", "_law_cell", "_law_mixed"]) (ps := ["_law_script", "_law_k"]) (k := 0) (b := dN) sc__law_stream (fun _ _ _ _ _ _ us hl => match us, hl with | [_, _], _ => rfl) fun f cdv A outer s H E hr =>
  (aK (fR (cT zM (aB 1) (eC AH (fun _ => T.hB.of "len") boot_len (aA (aB 0) aG)))
   (aK (bA 2 (fun _ => sc__law_stream.nd) (bD cC (aB 0) (aB 1)))
   (aK (bA 3 (fun _ => sc__law_stream.nd) (bT jW (bT jW (bT nK (aB 2) aF) (bT AQ (aB 1) (aB 1))) aF))
   (aK (fR (cT zM (aB 2) (bT AR aF aF))
    (aQ (bA 2 (fun _ => sc__law_stream.nd) aF))
    dW)
   (aQ (bE (pY (aA (aB 2) (aA (aB 3) aG))))))))
    dW)
   (aQ (bE (pY (aA aF (aA (bT jW (bT AQ (aB 1) (aB 1)) aF) aG))))))
theorem bG (T : Txt K mg) : Callee P w K mg base 1 "_law_take" ["_law_stream_here", "_law_most"] (spM K aS) :=
 T.d__law_take.okG (N := ["_law_stream_here", "_law_most", "_law_digit"]) (ps := ["_law_stream_here", "_law_most"]) (k := 0) (b := gA) sc__law_take (fun _ _ _ _ _ _ us hl => match us, hl with | [_, _], _ => rfl) fun f cdv A outer s H E hr =>
  (aK (fR (cT (tE (fun _ => rfl) (fun _ => hr.units)) (bD cC (aB 0) aF) aF)
   (aK (FP (bT nK (bT jW (bT AQ (bD cC (aB 0) aF) aF) aF) aF) (FV PY (aB 0) aF))
   (aQ (bE (bT nK (bT nK (bT AQ (bD cC (aB 0) aF) (bD cC (aB 0) aF)) aF) (aB 1)))))
    dW)
   (aK (bA 2 (fun _ => sc__law_take.nd) (bT nK (bD cC (aB 0) aF) (aB 1)))
   (aK (FP (bT yL (bD cC (aB 0) aF) (aB 1)) (FV PY (aB 0) aF))
   (aQ (bE (aB 2))))))
theorem tN (T : Txt K mg) : Callee P w K mg base 2 "_law_pick" ["_law_stream_here", "_law_some"] (spM K fY) :=
 T.d__law_pick.okG (N := ["_law_stream_here", "_law_some"]) (ps := ["_law_stream_here", "_law_some"]) (k := 1) (b := iW) uO (fun _ _ _ _ _ _ us hl => match us, hl with | [_, _], _ => rfl) fun f cdv A outer s H E hr =>
  (aQ (bE (bD cC (aB 1) (aP (fun _ => bG T) hr.le (aA (aB 0) (aA (eC AH (fun _ => T.hB.of "len") boot_len (aA (aB 1) aG)) aG))))))
theorem qY (T : Txt K mg) : Callee P w K mg base 1 "_law_least" ["_law_above", "_law_below"] (spM K fD) :=
 T.d__law_least.okG (N := ["_law_above", "_law_below", "_law_one", "_law_other"]) (ps := ["_law_above", "_law_below"]) (k := 0) (b := hV) sc__law_least (fun _ _ _ _ _ _ us hl => match us, hl with | [_, _], _ => rfl) fun f cdv A outer s H E hr =>
  (aK (bA 2 (fun _ => sc__law_least.nd) (aB 0))
   (aK (bA 3 (fun _ => sc__law_least.nd) (aB 1))
   (aK (pX (fun _ => PassesOwn.never) (cT KJ (aB 3) aF) (aQ (JU 2 3 (fun _ => rfl) (fun _ => sc__law_least.nd) (aA (aB 3) (aA (bT nK (aB 2) (aB 3)) aG)))))
   (aQ (bE (dX (aA (bT yL (aB 0) (aB 2)) (aA (bT yL (aB 1) (aB 2)) aG))))))))
theorem oX (T : Txt K mg) : Callee P w K mg base 3 "_law_weight" ["_law_stream_here"] (spM K cB) :=
 T.d__law_weight.okG (N := ["_law_stream_here", "_law_kind", "_law_below", "_law_above"]) (ps := ["_law_stream_here"]) (k := 2) (b := dG) sc__law_weight (fun _ _ _ _ _ _ us hl => match us, hl with | [_], _ => rfl) fun f cdv A outer s H E hr =>
  (aK (bA 1 (fun _ => sc__law_weight.nd) (aP (fun _ => bG T) hr.le (aA (aB 0) (aA aF aG))))
   (aK (fR (cT zM (aB 1) aF)
    (aQ (bE (bD cC (kR (aA (dX (aA aF (aA aF aG))) (aA (dX (aA aF (aA aF aG))) (aA (dX (aA aF (aA aF aG))) (aA (dX (aA aF (aA aF aG))) (aA (dX (aA aF (aA aF aG))) (aA (dX (aA aF (aA aF aG))) aG))))))) (aB 1))))
    dW)
   (aK (bA 2 (fun _ => sc__law_weight.nd) (aP (fun _ => tN T) hr.le (aA (aB 0) (aA (kR (aA aF (aA aF (aA aF (aA aF (aA aF (aA aF (aA aF (aA aF (aA aF (aA aF (aA aF (aA aF (aA aF (aA aF (aA aF (aA aF aG))))))))))))))))) aG))))
   (aK (bA 3 (fun _ => sc__law_weight.nd) (aP (fun _ => bG T) hr.le (aA (aB 0) (aA aF aG))))
   (aK (fR (cT (tE (fun _ => rfl) (fun _ => hr.units)) (aB 1) aF)
    (aQ (bA 3 (fun _ => sc__law_weight.nd) (bD cC (kR (aA (bT AR aF aF) (aA (bT YY (bT AR aF aF) aF) (aA aF (aA (bT jW (bT AR aF aF) (aP (fun _ => bG T) hr.le (aA (aB 0) (aA aF aG)))) aG))))) (aP (fun _ => bG T) hr.le (aA (aB 0) (aA aF aG))))))
    dW)
   (aQ (bE (aP (fun _ => qY T) hr.le (aA (aB 3) (aA (aB 2) aG))))))))))
theorem tM (T : Txt K mg) : Callee P w K mg base 4 "_law_ties" ["_law_stream_here", "_law_many"] (spM K eO) :=
 T.d__law_ties.okG (N := ["_law_stream_here", "_law_many", "_law_share", "_law_found", "_law_j", "_law_i", "_law_at"]) (ps := ["_law_stream_here", "_law_many"]) (k := 3) (b := jP) sc__law_ties (fun _ _ _ _ _ _ us hl => match us, hl with | [_, _], _ => rfl) fun f cdv A outer s H E hr =>
  (aK (bA 2 (fun _ => sc__law_ties.nd) (aP (fun _ => bG T) hr.le (aA (aB 0) (aA aF aG))))
   (aK (bA 3 (fun _ => sc__law_ties.nd) (kR aG))
   (aK (jB (fun _ => PassesOwn.never) (fun _ => rfl) (fW (fun _ => T.hB.of "range") (aA (aB 1) aG)) (aV 4 (fun _ => sc__law_ties.nd))
    (aQ (jB (fun _ => PassesOwn.never) (fun _ => rfl) (fW (fun _ => T.hB.of "range") (aA (aB 4) aG)) (aV 5 (fun _ => sc__law_ties.nd))
    (aQ (fR (cT zM (aP (fun _ => bG T) hr.le (aA (aB 0) (aA aF aG))) (aB 2))
    (aK (bA 6 (fun _ => sc__law_ties.nd) (aP (fun _ => bG T) hr.le (aA (aB 0) (aA (bT jW (eC AH (fun _ => T.hB.of "len") boot_len (aA (aB 3) aG)) aF) aG))))
   (aQ (bA 3 (fun _ => sc__law_ties.nd) (bT jW (bT jW (QG (fun _ => rfl) (aB 3) AY (BK (aB 6))) (kR (aA (dX (aA (aB 5) (aA (aB 4) (aA (aP (fun _ => oX T) hr.le (aA (aB 0) aG)) aG)))) aG))) (QG (fun _ => rfl) (aB 3) (BK (aB 6)) AY)))))
    dW)))))
   (aQ (bE (aB 3))))))
theorem mX (T : Txt K mg) : Callee P w K mg base 1 "places_beside" ["many", "pairs"] (spM K cH) :=
 T.d_places_beside.okG (N := ["many", "pairs", "beside", "one", "other"]) (ps := ["many", "pairs"]) (k := 0) (b := eT) sc_places_beside (fun _ _ _ _ _ _ us hl => match us, hl with | [_, _], _ => rfl) fun f cdv A outer s H E hr =>
  (aK (BZ 2 (fun _ => sc_places_beside.nd) (N' := (["place"] : List Str)) (cap := [none]) (fun _ => rfl) (fun _ => eK (sc0 := aE dC) (N := ["many", "pairs", "beside", "one", "other"]) rfl rfl (by decide +kernel)) (fW (fun _ => T.hB.of "range") (aA (aB 0) aG)) (aV 0 (fun _ => (show (["place"] : List Str).Nodup by decide +kernel))) lC (pY aG))
   (aK (jB (fun _ => PassesOwn.never) (fun _ => rfl) (jC (fun _ => rfl) (aB 1)) (jN (fun _ => rfl) (fun _ => rfl) (bF (aV 3 (fun _ => sc_places_beside.nd)) (bF (aV 4 (fun _ => sc_places_beside.nd)) gE)))
    (aK (kA (gY (fun _ => rfl) (bD cC (aB 2) (aB 3)) (aA (aB 4) aG)))
   (aQ (kA (gY (fun _ => rfl) (bD cC (aB 2) (aB 4)) (aA (aB 3) aG))))))
   (aQ (bE (aB 2)))))
theorem oB (T : Txt K mg) : Callee P w K mg base 1 "reached_from" ["beside", "places"] (spM K cU) :=
 T.d_reached_from.okG (N := ["beside", "places", "found", "waiting", "here", "there"]) (ps := ["beside", "places"]) (k := 0) (b := fL) sc_reached_from (fun _ _ _ _ _ _ us hl => match us, hl with | [_, _], _ => rfl) fun f cdv A outer s H E hr =>
  (aK (DT 2 (fun _ => sc_reached_from.nd) (N' := (["place"] : List Str)) (cap := [none]) (fun _ => hr.u0) (fun _ => rfl) (fun _ => eK (sc0 := aE dO) (N := ["beside", "places", "found", "waiting", "here", "there"]) rfl rfl (by decide +kernel)) (jC (fun _ => rfl) (aB 1)) (aV 0 (fun _ => (show (["place"] : List Str).Nodup by decide +kernel))) lC (mk_one (aB 0)) wG)
   (aK (bA 3 (fun _ => sc_reached_from.nd) (eA (OU (fun _ => rfl)) (fun _ => T.hB.of "list") boot_list (aA (aB 1) aG)))
   (aK (pX (fun _ => PassesOwn.never) (ED (fun _ => rfl) (aB 3)) (aK (bA 4 (fun _ => sc_reached_from.nd) (RO (fun _ => rfl) (aB 3)))
   (aQ (JZ (fun _ => PassesOwn.never) (fun _ => rfl) (fun _ => rfl) (bD cC (aB 0) (aB 4)) (aV 5 (fun _ => sc_reached_from.nd))
    (aQ (fR (sI (fun _ => hr.u1) (mk_one (aB 5)) (aB 2))
    (aK (zQ (fun _ => hr.u1) (aB 2) (mk_one (aB 5)) wG)
   (aQ (kA (gY (fun _ => rfl) (aB 3) (aA (aB 5) aG)))))
    dW))))))
   (aQ (bE (eA (kB (fun _ => rfl)) (fun _ => T.hB.of "tuple") boot_tuple (aA (eC (HK (fun _ => rfl)) (fun _ => T.hB.of "sorted") boot_sorted (aA (aB 2) aG)) aG)))))))
theorem uT (T : Txt K mg) : Callee P w K mg base 2 "joined_by" ["many", "pairs"] (spM K gF) :=
 T.d_joined_by.okG (N := ["many", "pairs", "beside", "seen", "found", "place", "row"]) (ps := ["many", "pairs"]) (k := 1) (b := iX) sc_joined_by (fun _ _ _ _ _ _ us hl => match us, hl with | [_, _], _ => rfl) fun f cdv A outer s H E hr =>
  (aK (bA 2 (fun _ => sc_joined_by.nd) (aP (fun _ => mX T) hr.le (aA (aB 0) (aA (aB 1) aG))))
   (aK (bA 3 (fun _ => sc_joined_by.nd) JT)
   (aK (bA 4 (fun _ => sc_joined_by.nd) (pY aG))
   (aK (jB (fun _ => PassesOwn.never) (fun _ => rfl) (fW (fun _ => T.hB.of "range") (aA (aB 0) aG)) (aV 5 (fun _ => sc_joined_by.nd))
    (aQ (fR (sI (fun _ => hr.u1) (mk_one (aB 5)) (aB 3))
    (aK (bA 6 (fun _ => sc_joined_by.nd) (aP (fun _ => oB T) hr.le (aA (aB 2) (aA (dX (aA (aB 5) aG)) aG))))
   (aK (kA (DB (fun _ => rfl) (aB 3) (aA (TJ (N' := (["one"] : List Str)) (cap := [none]) (fun _ => hr.u0) (fun _ => rfl) (fun _ => eK (sc0 := aE fB) (N := ["many", "pairs", "beside", "seen", "found", "place", "row"]) rfl rfl (by decide +kernel)) (jC (fun _ => rfl) (aB 6)) (aV 0 (fun _ => (show (["one"] : List Str).Nodup by decide +kernel))) lC (mk_one (aB 0)) wG) aG)))
   (aQ (kA (gY (fun _ => rfl) (aB 4) (aA (aB 6) aG))))))
    dW)))
   (aQ (bE (eA (kB (fun _ => rfl)) (fun _ => T.hB.of "tuple") boot_tuple (aA (aB 4) aG))))))))
theorem rV (T : Txt K mg) : Callee P w K mg base 3 "pieces" ["web"] (spM K gV) :=
 T.d_pieces.okG (N := ["web"]) (ps := ["web"]) (k := 2) (b := qE) BY (fun _ _ _ _ _ _ us hl => match us, hl with | [_], _ => rfl) fun f cdv A outer s H E hr =>
  (aQ (bE (aP (fun _ => uT T) hr.le (aA (yN (nm := "Web") (fun _ => rfl) T.cl_Web T.na_Web_many (aB 0)) (aA (xN (N' := (["i", "j", "weight"] : List Str)) (cap := [none, none, none]) (fun _ => rfl) (fun _ => eK (sc0 := aE jY) (N := ["web"]) rfl rfl (by decide +kernel)) (jC (fun _ => rfl) (yN (nm := "Web") (fun _ => rfl) T.cl_Web T.na_Web_ties (aB 0))) (jN (fun _ => rfl) (fun _ => rfl) (bF (aV 0 (fun _ => (show (["i", "j", "weight"] : List Str).Nodup by decide +kernel))) (bF (aV 1 (fun _ => (show (["i", "j", "weight"] : List Str).Nodup by decide +kernel))) (bF (aV 2 (fun _ => (show (["i", "j", "weight"] : List Str).Nodup by decide +kernel))) gE)))) lC (dX (aA (aB 0) (aA (aB 1) aG)))) aG)))))
theorem fU (T : Txt K mg) : Callee P w K mg base 1 "is_whole" ["thing"] (spM K dR) :=
 T.d_is_whole.okG (N := ["thing"]) (ps := ["thing"]) (k := 0) (b := pO) vS (fun _ _ _ _ _ _ us hl => match us, hl with | [_], _ => rfl) fun f cdv A outer s H E hr =>
  (aQ (bE (eU (FO (T := "int") (fun _ => rfl) (by decide) (aB 0) (fun _ => eG) (fun _ => T.hB.of "isinstance") (fun _ => T.hB.of "int") boot_int) (iE (VG (FO (T := "bool") (fun _ => rfl) (by decide) (aB 0) (fun _ => eG) (fun _ => T.hB.of "isinstance") (fun _ => T.hB.of "bool") boot_bool))))))
theorem sD (T : Txt K mg) : Callee P w K mg base 1 "is_row" ["thing"] (spM K lQ) :=
 T.d_is_row.okG (N := ["thing"]) (ps := ["thing"]) (k := 0) (b := vF) DP (fun _ _ _ _ _ _ us hl => match us, hl with | [_], _ => rfl) fun f cdv A outer s H E hr =>
  (aQ (bE (KM (T := "list") (U := "tuple") (fun _ => rfl) (by decide) (by decide) (aB 0) (fun _ => eG) (fun _ => T.hB.of "isinstance") (fun _ => T.hB.of "list") (fun _ => T.hB.of "tuple") boot_list boot_tuple)))
theorem CV (T : Txt K mg) : Callee P w K mg base 1 "common" ["one", "other"] (spM K pW) :=
 T.d_common.okG (N := ["one", "other"]) (ps := ["one", "other"]) (k := 0) (b := xC) sc_common (fun _ _ _ _ _ _ us hl => match us, hl with | [_, _], _ => rfl) fun f cdv A outer s H E hr =>
  (aK (pX (fun _ => PassesOwn.never) (ED (fun _ => rfl) (aB 1)) (aQ (JU 0 1 (fun _ => rfl) (fun _ => sc_common.nd) (aA (aB 1) (aA (bT nK (aB 0) (aB 1)) aG)))))
   (aQ (bE (aB 0))))
theorem mB (T : Txt K mg) : Callee P w K mg base 2 "is_row_of" ["thing", "length"] (spM K gH) :=
 T.d_is_row_of.okG (N := ["thing", "length"]) (ps := ["thing", "length"]) (k := 1) (b := nM) uF (fun _ _ _ _ _ _ us hl => match us, hl with | [_, _], _ => rfl) fun f cdv A outer s H E hr =>
  (aQ (bE (eU (aP (fun _ => sD T) hr.le (aA (aB 0) aG)) (iE (iF (tE (fun _ => rfl) (fun _ => hr.units)) (eC AH (fun _ => T.hB.of "len") boot_len (aA (aB 0) aG)) (aB 1))))))
theorem iU (T : Txt K mg) : Callee P w K mg base 3 "has_amount_numbers" ["thing"] (spM K bB) :=
 T.d_has_amount_numbers.okG (N := ["thing"]) (ps := ["thing"]) (k := 2) (b := bM) iS (fun _ _ _ _ _ _ us hl => match us, hl with | [_], _ => rfl) fun f cdv A outer s H E hr =>
  (aK (fR (KP (vB (mO (mQ (aP (fun _ => mB T) hr.le (aA (aB 0) (aA aF aG))))) (vB (mO (mQ (aP (fun _ => fU T) hr.le (aA (bD cC (aB 0) aF) aG)))) (zL (mO (mQ (aP (fun _ => fU T) hr.le (aA (bD cC (aB 0) aF) aG))))))))
   (aQ (bE wG))
   dW)
   (aQ (bE (eU (iF WM (bD cC (aB 0) aF) aF) (iE (iF WM (bD cC (aB 0) aF) aF))))))
theorem pF (T : Txt K mg) : Callee P w K mg base 4 "is_in_parts" ["thing"] (spM K bS) :=
 T.d_is_in_parts.okG (N := ["thing"]) (ps := ["thing"]) (k := 3) (b := cI) pE (fun _ _ _ _ _ _ us hl => match us, hl with | [_], _ => rfl) fun f cdv A outer s H E hr =>
  (aQ (bE (eU (aP (fun _ => iU T) hr.le (aA (aB 0) aG)) (eU (iF (tE (fun _ => rfl) (fun _ => hr.units)) (bT nK (pA (fun _ => T.c_BELOW)) (bD cC (aB 0) aF)) aF) (iE (iF (tE (fun _ => rfl) (fun _ => hr.units)) (aP (fun _ => CV T) hr.le (aA (bD cC (aB 0) aF) (aA (bD cC (aB 0) aF) aG))) aF))))))
theorem tQ (T : Txt K mg) : Callee P w K mg base 5 "is_weight" ["thing"] (spM K dB) :=
 T.d_is_weight.okG (N := ["thing"]) (ps := ["thing"]) (k := 4) (b := eM) tD (fun _ _ _ _ _ _ us hl => match us, hl with | [_], _ => rfl) fun f cdv A outer s H E hr =>
  (aQ (bE (eU (aP (fun _ => pF T) hr.le (aA (aB 0) aG)) (iE (iF XZ (bD cC (aB 0) aF) (pA (fun _ => T.c_MOST_ABOVE)))))))
theorem nY (T : Txt K mg) : Callee P w K mg base 2 "is_place" ["many", "thing"] (spM K eJ) :=
 T.d_is_place.okG (N := ["many", "thing"]) (ps := ["many", "thing"]) (k := 1) (b := iA) xF (fun _ _ _ _ _ _ us hl => match us, hl with | [_, _], _ => rfl) fun f cdv A outer s H E hr =>
  (aQ (bE (eU (aP (fun _ => fU T) hr.le (aA (aB 1) aG)) (iE (FF XZ zM aF (aB 1) (aB 0))))))
theorem jV (T : Txt K mg) : Callee P w K mg base 3 "are_unlike_places" ["many", "i", "j"] (spM K bH) :=
 T.d_are_unlike_places.okG (N := ["many", "i", "j"]) (ps := ["many", "i", "j"]) (k := 2) (b := bQ) jG (fun _ _ _ _ _ _ us hl => match us, hl with | [_, _, _], _ => rfl) fun f cdv A outer s H E hr =>
  (aQ (bE (eU (aP (fun _ => nY T) hr.le (aA (aB 0) (aA (aB 1) aG))) (eU (aP (fun _ => nY T) hr.le (aA (aB 0) (aA (aB 2) aG))) (iE (iF (SM (fun _ => rfl) (fun _ => hr.units)) (aB 1) (aB 2)))))))
theorem jQ (T : Txt K mg) : Callee P w K mg base 4 "is_between_places" ["many", "thing"] (spM K aW) :=
 T.d_is_between_places.okG (N := ["many", "thing"]) (ps := ["many", "thing"]) (k := 3) (b := bR) jK (fun _ _ _ _ _ _ us hl => match us, hl with | [_, _], _ => rfl) fun f cdv A outer s H E hr =>
  (aQ (bE (eU (aP (fun _ => mB T) hr.le (aA (aB 1) (aA aF aG))) (eU (aP (fun _ => jV T) hr.le (aA (aB 0) (aA (bD cC (aB 1) aF) (aA (bD cC (aB 1) aF) aG)))) (iE (iF zM (bD cC (aB 1) aF) (bD cC (aB 1) aF)))))))
theorem DF (T : Txt K mg) : Callee P w K mg base 6 "is_tie" ["many", "thing"] (spM K fF) :=
 T.d_is_tie.okG (N := ["many", "thing"]) (ps := ["many", "thing"]) (k := 5) (b := hJ) DC (fun _ _ _ _ _ _ us hl => match us, hl with | [_, _], _ => rfl) fun f cdv A outer s H E hr =>
  (aQ (bE (eU (aP (fun _ => jQ T) hr.le (aA (aB 0) (aA (aB 1) aG))) (iE (aP (fun _ => tQ T) hr.le (aA (bD cC (aB 1) aF) aG))))))
theorem uA (T : Txt K mg) : Callee P w K mg base 7 "kept_ties" ["many", "ties"] (spM K eP) :=
 T.d_kept_ties.okG (N := ["many", "ties", "weights", "at", "row"]) (ps := ["many", "ties"]) (k := 6) (b := jR) sc_kept_ties (fun _ _ _ _ _ _ us hl => match us, hl with | [_, _], _ => rfl) fun f cdv A outer s H E hr =>
  (aK (fR (mO (mQ (aP (fun _ => sD T) hr.le (aA (aB 1) aG))))
   (aQ pD)
   dW)
   (aK (bA 2 (fun _ => sc_kept_ties.nd) JO)
   (aK (jB (fun _ => PassesOwn.never) (fun _ => rfl) (zP (fun _ => rfl) (fun _ => T.hB.of "enumerate") (aA (aB 1) aG)) (jN (fun _ => rfl) (fun _ => rfl) (bF (aV 3 (fun _ => sc_kept_ties.nd)) (bF (aV 4 (fun _ => sc_kept_ties.nd)) gE)))
    (aK (fR (KP (vB (mO (mQ (aP (fun _ => DF T) hr.le (aA (aB 0) (aA (aB 4) aG))))) (zL (SQ (fun _ => hr.u1) (xZ (aA (bD cC (aB 4) aF) (aA (bD cC (aB 4) aF) aG))) (aB 2)))))
    (aQ pD)
    dW)
   (aQ (zQ (fun _ => hr.u1) (aB 2) (xZ (aA (bD cC (aB 4) aF) (aA (bD cC (aB 4) aF) aG))) (eA (kB (fun _ => rfl)) (fun _ => T.hB.of "tuple") boot_tuple (aA (bD cC (aB 4) aF) aG))))))
   (aQ (bE (eA (kB (fun _ => rfl)) (fun _ => T.hB.of "tuple") boot_tuple (aA (xN (N' := (["i", "j", "weight"] : List Str)) (cap := [none, none, none]) (fun _ => rfl) (fun _ => eK (sc0 := aE eY) (N := ["many", "ties", "weights", "at", "row"]) rfl rfl (by decide +kernel)) (jC (fun _ => rfl) (FA (fun _ => rfl) (fun _ => hr.units2) (fun _ => rfl) (fun _ => T.hB.of "sorted") (aB 2))) (jN (fun _ => rfl) (fun _ => rfl) (bF (jN (fun _ => rfl) (fun _ => rfl) (bF (aV 0 (fun _ => (show (["i", "j", "weight"] : List Str).Nodup by decide +kernel))) (bF (aV 1 (fun _ => (show (["i", "j", "weight"] : List Str).Nodup by decide +kernel))) gE))) (bF (aV 2 (fun _ => (show (["i", "j", "weight"] : List Str).Nodup by decide +kernel))) gE))) (xS (cT KJ (bD cC (aB 2) aF) aF)) (dX (aA (aB 0) (aA (aB 1) (aA (aB 2) aG))))) aG)))))))
theorem lY (T : Txt K mg) : tF P w K mg base 8 "Web" ["self", "many", "ties"] (spM K cD) :=
 T.mm_Web__init.okI (N := ["self", "many", "ties"]) (ps := ["self", "many", "ties"]) (k := 7) (b := iZ) T.mk_Web T.kp_Web T.m_Web tL (fun _ _ _ _ _ _ us hl => match us, hl with | [_, _, _], _ => rfl) fun f cdv A outer s H E hr =>
  (aK (fR (KP (vB (mO (mQ (aP (fun _ => fU T) hr.le (aA (aB 1) aG)))) (vB (cT zM (aB 1) aF) (zL (cT KJ (aB 1) (pA (fun _ => T.c_MOST_PLACES)))))))
   (aQ pD)
   dW)
   (aK (zD (nm := "Web") (fun _ => rfl) T.cl_Web T.na_Web_many (aB 0) (aB 1))
   (aK (zD (nm := "Web") (fun _ => rfl) T.cl_Web T.na_Web_ties (aB 0) (aP (fun _ => uA T) hr.le (aA (aB 1) (aA (aB 2) aG))))
   (aQ (zD (nm := "Web") (fun _ => rfl) T.cl_Web T.na_Web_weights (aB 0) (RA (N' := (["i", "j", "weight"] : List Str)) (cap := [none, none, none]) (fun _ => hr.u0) (fun _ => rfl) (fun _ => eK (sc0 := aE dE) (N := ["self", "many", "ties"]) rfl rfl (by decide +kernel)) (jC (fun _ => rfl) (yN (nm := "Web") (fun _ => rfl) T.cl_Web T.na_Web_ties (aB 0))) (jN (fun _ => rfl) (fun _ => rfl) (bF (aV 0 (fun _ => (show (["i", "j", "weight"] : List Str).Nodup by decide +kernel))) (bF (aV 1 (fun _ => (show (["i", "j", "weight"] : List Str).Nodup by decide +kernel))) (bF (aV 2 (fun _ => (show (["i", "j", "weight"] : List Str).Nodup by decide +kernel))) gE)))) lC (xZ (aA (aB 0) (aA (aB 1) aG))) (aB 2)))))))
theorem jA (T : Txt K mg) : Callee P w K mg base 1 "_law_joined" ["_law_many", "_law_ties_here"] (spM K cL) :=
 T.d__law_joined.okG (N := ["_law_many", "_law_ties_here", "_law_heap", "_law_i", "_law_j", "_law_weight_here", "_law_old", "_law_found", "_law_place"]) (ps := ["_law_many", "_law_ties_here"]) (k := 0) (b := gL) sc__law_joined (fun _ _ _ _ _ _ us hl => match us, hl with | [_, _], _ => rfl) fun f cdv A outer s H E hr =>
  (aK (bA 2 (fun _ => sc__law_joined.nd) (JM false (fun _ => rfl) (fun _ => T.hB.of "range") (fun _ => T.hB.of "list") (aA (aB 0) aG)))
   (aK (jB (fun _ => PassesOwn.never) (fun _ => rfl) (jC (fun _ => rfl) (aB 1)) (jN (fun _ => rfl) (fun _ => rfl) (bF (aV 3 (fun _ => sc__law_joined.nd)) (bF (aV 4 (fun _ => sc__law_joined.nd)) (bF (aV 5 (fun _ => sc__law_joined.nd)) gE))))
    (aQ (fR (KP (QR (cT KJ (bD cC (aB 5) aF) aF) (OR (cT (SM (fun _ => rfl) (fun _ => hr.units)) (bD cC (aB 2) (aB 3)) (bD cC (aB 2) (aB 4))))))
    (aK (bA 6 (fun _ => sc__law_joined.nd) (bD cC (aB 2) (aB 4)))
   (aQ (bA 2 (fun _ => sc__law_joined.nd) (xN (N' := (["_law_old", "_law_heap", "_law_i", "_law_one"] : List Str)) (cap := [some 6, some 2, some 3, none]) (fun _ => rfl) (fun _ => eK (sc0 := aE cV) (N := ["_law_many", "_law_ties_here", "_law_heap", "_law_i", "_law_j", "_law_weight_here", "_law_old", "_law_found", "_law_place"]) rfl rfl (by decide +kernel)) (jC (fun _ => rfl) (aB 2)) (aV 3 (fun _ => (show (["_law_old", "_law_heap", "_law_i", "_law_one"] : List Str).Nodup by decide +kernel))) lC (WZ (cT (tE (fun _ => rfl) (fun _ => hr.units)) (aB 3) (aB 0)) (bD cC (aB 1) (aB 2)) (aB 3))))))
    dW)))
   (aK (bA 7 (fun _ => sc__law_joined.nd) (pY aG))
   (aK (jB (fun _ => PassesOwn.never) (fun _ => rfl) (fW (fun _ => T.hB.of "range") (aA (aB 0) aG)) (aV 8 (fun _ => sc__law_joined.nd))
    (aQ (fR (cT (tE (fun _ => rfl) (fun _ => hr.units)) (HS (fun _ => rfl) (aB 2) (aA (bD cC (aB 2) (aB 8)) aG)) (aB 8))
    (aQ (kA (gY (fun _ => rfl) (aB 7) (aA (eA (kB (fun _ => rfl)) (fun _ => T.hB.of "tuple") boot_tuple (aA (xN (N' := (["_law_heap", "_law_place", "_law_one"] : List Str)) (cap := [some 2, some 8, none]) (fun _ => rfl) (fun _ => eK (sc0 := aE cV) (N := ["_law_many", "_law_ties_here", "_law_heap", "_law_i", "_law_j", "_law_weight_here", "_law_old", "_law_found", "_law_place"]) rfl rfl (by decide +kernel)) (fW (fun _ => T.hB.of "range") (aA (aB 0) aG)) (aV 2 (fun _ => (show (["_law_heap", "_law_place", "_law_one"] : List Str).Nodup by decide +kernel))) (xS (cT (tE (fun _ => rfl) (fun _ => hr.units)) (bD cC (aB 0) (aB 2)) (bD cC (aB 0) (aB 1)))) (aB 2)) aG)) aG))))
    dW)))
   (aQ (bE (eA (kB (fun _ => rfl)) (fun _ => T.hB.of "tuple") boot_tuple (aA (aB 7) aG))))))))
theorem fn_law (T : Txt K mg) : ∃ f fd, mg "law" = some (.ref f) /\ (∀ (s : Shared) (u : Value), BindsTo s fd ⟨[u], []⟩ [("_law_script", u)]) /\ ∀ base, kJ P w K mg base CX0 10 f fd ["_law_script"] (spM K F_law) :=
 T.d_law.okLG (N := ["_law_script", "_law_k", "_law_stream_here", "_law_many", "_law_ties_here", "_law_ring", "_law_cut"]) (k := 9) (b := IS) sc_law rfl (fun _ _ _ _ _ _ us hl => match us, hl with | [_], _ => rfl) fun base f cdv A outer s H E hr =>
  (aK (jB (fun _ => PassesOwn.never) (fun _ => rfl) (fW (fun _ => T.hB.of "range") (aA aF aG)) (aV 1 (fun _ => sc_law.nd))
   (aK (bA 2 (fun _ => sc_law.nd) (aP (fun _ => jD T) hr.le (aA (aB 0) (aA (aB 1) aG))))
   (aK (bA 3 (fun _ => sc_law.nd) (bT jW aF (aP (fun _ => bG T) hr.le (aA (aB 2) (aA aF aG)))))
   (aK (bA 4 (fun _ => sc_law.nd) (aP (fun _ => tM T) hr.le (aA (aB 2) (aA (aB 3) aG))))
   (aQ (fR (cT (SM (fun _ => rfl) (fun _ => hr.units)) (eC (oS (fun _ => rfl) (fun _ => hr.gd) (fun _ => hr.u200)) (fun _ => T.hB.of "repr") boot_repr (aA (aP (fun _ => rV T) hr.le (aA (BN (fun _ => lY T) (fun _ => rfl) hr.le (aA (aB 3) (aA (eA (HV (fun _ => rfl)) (fun _ => T.hB.of "list") boot_list (aA (aB 4) aG)) aG))) aG)) aG)) (eC (oS (fun _ => rfl) (fun _ => hr.gd) (fun _ => hr.u200)) (fun _ => T.hB.of "repr") boot_repr (aA (aP (fun _ => jA T) hr.le (aA (aB 3) (aA (aB 4) aG))) aG)))
    (aQ (bE wG))
    dW))))))
   (aK (bA 2 (fun _ => sc_law.nd) (aP (fun _ => jD T) hr.le (aA (aB 0) (aA aF aG))))
   (aK (bA 5 (fun _ => sc_law.nd) (bT jW (xN (N' := (["_law_k"] : List Str)) (cap := [none]) (fun _ => rfl) (fun _ => eK (sc0 := aE qI) (N := ["_law_script", "_law_k", "_law_stream_here", "_law_many", "_law_ties_here", "_law_ring", "_law_cut"]) rfl rfl (by decide +kernel)) (fW (fun _ => T.hB.of "range") (aA aF aG)) (aV 0 (fun _ => (show (["_law_k"] : List Str).Nodup by decide +kernel))) lC (dX (aA (aB 0) (aA (bT jW (aB 0) aF) (aA (dX (aA aF (aA aF aG))) aG))))) (kR (aA (dX (aA aF (aA aF (aA (dX (aA aF (aA aF aG))) aG)))) aG))))
   (aK (bA 6 (fun _ => sc_law.nd) (kR (aA (aP (fun _ => bG T) hr.le (aA (aB 2) (aA aF aG))) (aA (aP (fun _ => bG T) hr.le (aA (aB 2) (aA aF aG))) aG))))
   (aK (JC 4 (fun _ => sc_law.nd) (N' := (["_law_cut", "_law_number", "_law_one"] : List Str)) (cap := [some 6, none, none]) (fun _ => rfl) (fun _ => eK (sc0 := aE qI) (N := ["_law_script", "_law_k", "_law_stream_here", "_law_many", "_law_ties_here", "_law_ring", "_law_cut"]) rfl rfl (by decide +kernel)) (zP (fun _ => rfl) (fun _ => T.hB.of "enumerate") (aA (aB 5) aG)) (jN (fun _ => rfl) (fun _ => rfl) (bF (aV 1 (fun _ => (show (["_law_cut", "_law_number", "_law_one"] : List Str).Nodup by decide +kernel))) (bF (aV 2 (fun _ => (show (["_law_cut", "_law_number", "_law_one"] : List Str).Nodup by decide +kernel))) gE))) (xS (cT (OB (fun _ => rfl) (fun _ => hr.units1)) (aB 1) (aB 0))) (aB 2))
   (aQ (bE (iF (tE (fun _ => rfl) (fun _ => hr.units)) (eC (oS (fun _ => rfl) (fun _ => hr.gd) (fun _ => hr.u200)) (fun _ => T.hB.of "repr") boot_repr (aA (aP (fun _ => rV T) hr.le (aA (BN (fun _ => lY T) (fun _ => rfl) hr.le (aA aF (aA (eA (HV (fun _ => rfl)) (fun _ => T.hB.of "list") boot_list (aA (aB 4) aG)) aG))) aG)) aG)) (eC (oS (fun _ => rfl) (fun _ => hr.gd) (fun _ => hr.u200)) (fun _ => T.hB.of "repr") boot_repr (aA (aP (fun _ => jA T) hr.le (aA aF (aA (aB 4) aG))) aG))))))))))
theorem txt_mk {h : Heap} {t_MOST_ABOVE : Tok} {t_BELOW : Tok} {t_MOST_PLACES : Tok} {C_Web : Addr} {f_Web__init : Addr} {od_Web__init an_Web__init : Option Addr} {sl_Web__init : Array (Option Value)} {oc_Web__init kV_Web__init dc_Web__init pm_Web__init cd_Web__init ct_Web__init : Value} (X : K.In h) (G : h.Ns mainGlobals mg) (z_bool : PySem.W.nsIn K mainGlobals "bool" = some none) (z_enumerate : PySem.W.nsIn K mainGlobals "enumerate" = some none) (z_int : PySem.W.nsIn K mainGlobals "int" = some none) (z_isinstance : PySem.W.nsIn K mainGlobals "isinstance" = some none) (z_len : PySem.W.nsIn K mainGlobals "len" = some none) (z_list : PySem.W.nsIn K mainGlobals "list" = some none) (z_range : PySem.W.nsIn K mainGlobals "range" = some none) (z_repr : PySem.W.nsIn K mainGlobals "repr" = some none) (z_sorted : PySem.W.nsIn K mainGlobals "sorted" = some none) (z_tuple : PySem.W.nsIn K mainGlobals "tuple" = some none) (u_MOST_ABOVE : PySem.W.nsIn K mainGlobals "MOST_ABOVE" = some (some (.int 1000000000000 t_MOST_ABOVE))) (u_BELOW : PySem.W.nsIn K mainGlobals "BELOW" = some (some (.int 55440 t_BELOW))) (u_MOST_PLACES : PySem.W.nsIn K mainGlobals "MOST_PLACES" = some (some (.int 40 t_MOST_PLACES))) (a_Web : PySem.W.nsIn K mainGlobals "Web" = some (some (.ref C_Web))) (cl_Web_pg : PySem.W.plainGet K C_Web Str.empty = true) (cl_Web_hd : PySem.W.hasDictIn K C_Web = true) (cl_Web_po : PySem.W.plainOver K C_Web = true) (cl_Web_sa : PySem.W.findIn K (.ref C_Web) "__setattr__" = some (some (.builtin "object.__setattr__"))) (na_Web_ties : PySem.W.findIn K (.ref C_Web) "ties" = some none) (na_Web_many : PySem.W.findIn K (.ref C_Web) "many" = some none) (na_Web_weights : PySem.W.findIn K (.ref C_Web) "weights" = some none) (i_Web__init : PySem.W.findIn K (.ref C_Web) "__init__" = some (some (.ref f_Web__init))) (l_Web__init : K.lookup f_Web__init = some ⟨oc_Web__init, od_Web__init, .func (PySem.W.fnOf "__init__" "Web.__init__" (dD dE) (bJ dE) (aE dE) .none kV_Web__init dc_Web__init pm_Web__init an_Web__init cd_Web__init ct_Web__init), sl_Web__init⟩) (c_Web__init : PySem.W.codeIn K cd_Web__init "Web.__init__" = true) (k_Web__init : PySem.W.keepIn K (.ref f_Web__init) = true) (g_Web__init : PySem.W.isFn K (.ref f_Web__init) = true) (mk_Web : PySem.W.makesIn K C_Web = true) (kp_Web : PySem.W.keepIn K (.ref C_Web) = true) (d__law_stream : Def K mg "_law_stream" fO) (d__law_take : Def K mg "_law_take" hW) (d__law_pick : Def K mg "_law_pick" iH) (d__law_least : Def K mg "_law_least" gR) (d__law_weight : Def K mg "_law_weight" fN) (d__law_ties : Def K mg "_law_ties" hZ) (d_places_beside : Def K mg "places_beside" dC) (d_reached_from : Def K mg "reached_from" dO) (d_joined_by : Def K mg "joined_by" fB) (d_pieces : Def K mg "pieces" jY) (d_is_whole : Def K mg "is_whole" jS) (d_is_row : Def K mg "is_row" mZ) (d_common : Def K mg "common" mI) (d_is_row_of : Def K mg "is_row_of" iI) (d_has_amount_numbers : Def K mg "has_amount_numbers" cQ) (d_is_in_parts : Def K mg "is_in_parts" fH) (d_is_weight : Def K mg "is_weight" iL) (d_is_place : Def K mg "is_place" jL) (d_are_unlike_places : Def K mg "are_unlike_places" dA) (d_is_between_places : Def K mg "is_between_places" cW) (d_is_tie : Def K mg "is_tie" mU) (d_kept_ties : Def K mg "kept_ties" eY) (d__law_joined : Def K mg "_law_joined" cV) (d_law : Def K mg "law" qI) : Txt K mg := by
 cases NR a_Web
 exact ⟨(cM (PySem.W.mg_none_of X G z_bool) (cM (PySem.W.mg_none_of X G z_enumerate) (cM (PySem.W.mg_none_of X G z_int) (cM (PySem.W.mg_none_of X G z_isinstance) (cM (PySem.W.mg_none_of X G z_len) (cM (PySem.W.mg_none_of X G z_list) (cM (PySem.W.mg_none_of X G z_range) (cM (PySem.W.mg_none_of X G z_repr) (cM (PySem.W.mg_none_of X G z_sorted) (cM (PySem.W.mg_none_of X G z_tuple) IY)))))))))), ⟨_, PySem.W.mg_of X G u_MOST_ABOVE⟩, ⟨_, PySem.W.mg_of X G u_BELOW⟩, ⟨_, PySem.W.mg_of X G u_MOST_PLACES⟩, PySem.W.mg_of X G a_Web, ⟨cl_Web_pg, cl_Web_hd, cl_Web_po, cl_Web_sa⟩, na_Web_ties, na_Web_many, na_Web_weights, NT rfl i_Web__init l_Web__init c_Web__init k_Web__init g_Web__init, mk_Web, kp_Web, d__law_stream, d__law_take, d__law_pick, d__law_least, d__law_weight, d__law_ties, d_places_beside, d_reached_from, d_joined_by, d_pieces, d_is_whole, d_is_row, d_common, d_is_row_of, d_has_amount_numbers, d_is_in_parts, d_is_weight, d_is_place, d_are_unlike_places, d_is_between_places, d_is_tie, d_kept_ties, d__law_joined, d_law⟩
end
end Q8
end
end
section
set_option linter.all false
set_option maxRecDepth 100000
set_option maxHeartbeats 4000000
namespace Q8
open PySem PySem.Spec PyProof.Rows L2
local macro_rules | `(tactic| simp! [$a,*]) => `(tactic| simp only [fnF, fnX, YW, ZW, WQ, SR, YG, XF, PJ, XN, liA, liE, liS, US, aAk, QX, XS, NZ, setG, ZI, SJ, aZ, sIf, cO, XA, eB, bU, kK, hName, gO, aX, gM, hSub, gOr, JY, uW, gB, rA, MD, aJ, aC, aI, aD, fC, fOp, fUn, kY, fOr, LC, fIf, uE, asB, fE, nB, mC, iM, FJ, zN, pI, ifS, SD, NP, yC, rW, lP, zK, ltI, leI, gtI, geI, Option.bind_some, Option.bind_none, Option.map_some, List.getElem?_cons_zero, List.getElem?_cons_succ, List.length_cons, List.length_nil, List.set_cons_zero, List.set_cons_succ, List.map_cons, List.map_nil, List.replicate_zero, List.replicate_succ, List.cons_append, List.nil_append, List.append_nil, if_true, ite_true, ite_false, Nat.reduceAdd, Nat.reduceSub, reduceIte, Bool.not_true, Bool.not_false, Bool.false_eq_true, $a,*])
def lR : PyData -> Bool
 | .int _ => true
 | _ => false
def ET : PyData -> Bool
 | .list _ => true
 | .tuple _ => true
 | _ => false
theorem fM (x : PyData) (M : Sto) : dR [.d x] M = some (.d (.bool (lR x)), M) := by cases x <;> rfl
theorem JK (x : PyData) (M : Sto) : lQ [.d x] M = some (.d (.bool (ET x)), M) := by cases x <;> rfl
def eV (d : PyData) (n : Int) : Bool := match bI d with
 | some ds => ((ds.length : Int) == n)
 | none => false
theorem dY (x : PyData) (n : Int) (M : Sto) : gH [.d x, .d (.int n)] M = some (.d (.bool (eV x n)), M) := by cases x <;> rfl
theorem xI (x y : Int) : Int.gcd y (x % y) = Int.gcd x y := by
 rw [Int.gcd_comm x y]
 have : x % y = x - y * (x / y) := by have := Int.emod_add_mul_ediv x y; omega
 rw [this]
 simp
abbrev I (n : Int) : CD := .d (.int n)
theorem fX {x y : Int} (h : 0 < y) : lX x y = true := by simp [lX, h]
theorem nH (M : Sto) : ∀ (n : Nat) (x y : Int), 0 <= x -> 0 <= y -> y.toNat < n ->
 cP (rA (aD 1)) (vE 0 1 (aC (aD 1) (aC (fOp lP (aD 0) (aD 1)) aI))) n [some (I x), some (I y)] M = some (.nx [some (I (Int.gcd x y)), some (I 0)], M)
 | 0, _, _, _, _, h => by omega
 | n + 1, x, y, hx, hy, h => by
  by_cases e : y = 0
  · subst e
    have : (Int.gcd x 0 : Int) = x := by rw [Int.gcd_zero_right]; omega
    rw [this]
    rfl
  · have hp : 0 < y := by omega
    have ih := nH M n y (x % y) hy (Int.emod_nonneg _ e) (by have := Int.emod_lt_of_pos x hp; omega)
    rw [xI] at ih
    rw [<- ih]
    have hb : (y != 0) = true := by simp [e]
    simp only [cP, rA, aD, MD, vE, aC, fOp, aI, lP, pI, ifS, fX hp, hb, Option.bind, List.getElem?_cons_succ, List.getElem?_cons_zero, if_true, List.set]
theorem DV {a b : Int} (M : Sto) (ha : 0 <= a) (hb : 0 <= b) : pW [I a, I b] M = some (I (Int.gcd a b), M) := by
 have h : kX [some (I a), some (I b)] M = _ := qA (nH M (b.toNat + 1) a b ha hb (Nat.lt_succ_self _))
 show ((aZ kX _ [some (I a), some (I b)] M).bind _) = _
 unfold aZ
 rw [h]
 rfl
abbrev B (b : Bool) : CD := .d (.bool b)
def lE (d : PyData) : Bool := match bI d with
 | some [.int a, .int b] => decide (0 <= a) && decide (1 <= b)
 | _ => false
theorem GZ {x : PyData} (h : eV x 2 = true) : ∃ a b, x = .list [a, b] \/ x = .tuple [a, b] := by
 unfold eV at h
 cases x with
 | list ds =>
  have h : ((ds.length : Int) == 2) = true := h
  rcases ds with _ | ⟨a, _ | ⟨b, _ | ⟨c, r⟩⟩⟩
  · simp at h
  · simp at h
  · exact ⟨a, b, .inl rfl⟩
  · simp at h; omega
 | tuple ds =>
  have h : ((ds.length : Int) == 2) = true := h
  rcases ds with _ | ⟨a, _ | ⟨b, _ | ⟨c, r⟩⟩⟩
  · simp at h
  · simp at h
  · exact ⟨a, b, .inr rfl⟩
  · simp at h; omega
 | _ => simp [bI] at h
theorem xE {x : PyData} (h : eV x 2 = false) : lE x = false := by
 unfold lE
 unfold eV at h
 cases q : bI x with
 | none => rfl
 | some ds =>
  rw [q] at h
  rcases ds with _ | ⟨a, _ | ⟨b, _ | ⟨c, r⟩⟩⟩
  · rfl
  · cases a <;> rfl
  · simp at h
  · cases a <;> cases b <;> rfl
theorem aAm {a b : PyData} {M : Sto} : ixF (.d (.list [a, b])) (I 0) M = some (.d a, M) := rfl
theorem aAg {a b : PyData} {M : Sto} : ixF (.d (.list [a, b])) (I 1) M = some (.d b, M) := rfl
theorem aAe {a b : PyData} {M : Sto} : ixF (.d (.tuple [a, b])) (I 0) M = some (.d a, M) := rfl
theorem ZX {a b : PyData} {M : Sto} : ixF (.d (.tuple [a, b])) (I 1) M = some (.d b, M) := rfl
theorem YL {p q : Bool} {M : Sto} : (if p = true then some (B q, M) else some (B false, M)) = some (B (p && q), M) := by cases p <;> rfl
theorem bY (x : PyData) (M : Sto) : bB [.d x] M = some (B (lE x), M) := by
 cases h : eV x 2 with
 | false =>
  rw [xE h]
  simp! [bB, bM, dY, h]
 | true =>
  obtain ⟨a, b, rfl | rfl⟩ := GZ h
  · cases a <;> cases b <;> first | rfl | (rename_i a b; simp! [bB, bM, dY, h, fM, aAm, aAg, lR, YL]; rfl)
  · cases a <;> cases b <;> first | rfl | (rename_i a b; simp! [bB, bM, dY, h, fM, aAe, ZX, lR, YL]; rfl)
def P (k : Bool) (a b : Int) : PyData := if k then .list [.int a, .int b] else .tuple [.int a, .int b]
theorem TK {k : Bool} {a b : Int} {M : Sto} : ixF (.d (P k a b)) (I 0) M = some (I a, M) := by cases k <;> rfl
theorem ZG {k : Bool} {a b : Int} {M : Sto} : ixF (.d (P k a b)) (I 1) M = some (I b, M) := by cases k <;> rfl
theorem qG {i j : Int} {M : Sto} : eqX false (I i) (I j) M = some (B (i == j), M) := rfl
theorem TQ {i j : Int} {M : Sto} : eqX true (I i) (I j) M = some (B (!(i == j)), M) := rfl
theorem nO {i j : Int} {M : Sto} : gS (I i) (I j) M = some (I (i + j), M) := rfl
theorem DZ {k : Bool} {a b : Int} : lE (P k a b) = (decide (0 <= a) && decide (1 <= b)) := by cases k <;> rfl
theorem aAn (n m : Nat) : ((n : Int) == (m : Int)) = (n == m) := by
 rw [Bool.eq_iff_iff]; simp; omega
def fT (a b : Int) : Bool := decide (0 <= a) && decide (1 <= b) && (55440 % b == 0) && (Int.gcd a b == 1) && decide (a <= 1000000000000)
theorem kM (k : Bool) (a b : Int) (M : Sto) : bS [.d (P k a b)] M = some (B (decide (0 <= a) && decide (1 <= b) && (55440 % b == 0) && (Int.gcd a b == 1)), M) := by
 cases h : (decide (0 <= a) && decide (1 <= b)) with
 | false =>
  simp! [bS, cI, bY, DZ, h, Bool.false_and]
 | true =>
  have hh := h
  rw [Bool.and_eq_true] at h
  have h1 := of_decide_eq_true h.1
  have h2 := of_decide_eq_true h.2
  have hm : lX 55440 b = true := fX (by omega)
  cases h3 : (55440 % b == 0) with
  | false => simp! [bS, cI, bY, DZ, hh, TK, ZG, hm, qG, h3, Bool.true_and, Bool.false_and]
  | true =>
   simp! [bS, cI, bY, DZ, hh, TK, ZG, hm, qG, h3, Bool.true_and, DV M h1 (Int.le_trans (by decide) h2)]
   rw [show (1 : Int) = ((1 : Nat) : Int) from rfl, aAn]
theorem xM (k : Bool) (a b : Int) (M : Sto) : dB [.d (P k a b)] M = some (B (fT a b), M) := by
 cases h : (decide (0 <= a) && decide (1 <= b) && (55440 % b == 0) && (Int.gcd a b == 1)) with
 | false =>
  have e : fT a b = false := by unfold fT; rw [h]; rfl
  rw [e]
  simp! [dB, eM, kM, h]
 | true =>
  have e : fT a b = decide (a <= 1000000000000) := by unfold fT; rw [h]; rfl
  rw [e]
  simp! [dB, eM, kM, h, TK]
theorem pK (M : Sto) (a b : Int) : ∀ (n : Nat) (x y : Int), 0 <= x -> 0 <= y -> y.toNat < n ->
 cP (gB (fOp gtI (aD 3) (fC (.int 0)))) (vE 2 3 (aC (aD 3) (aC (fOp lP (aD 2) (aD 3)) aI))) n [some (I a), some (I b), some (I x), some (I y)] M = some (.nx [some (I a), some (I b), some (I (Int.gcd x y)), some (I 0)], M)
 | 0, _, _, _, _, h => by omega
 | n + 1, x, y, hx, hy, h => by
  by_cases e : y = 0
  · subst e
    have : (Int.gcd x 0 : Int) = x := by rw [Int.gcd_zero_right]; omega
    rw [this]
    rfl
  · have hp : 0 < y := by omega
    have ih := pK M a b n y (x % y) hy (Int.emod_nonneg _ e) (by have := Int.emod_lt_of_pos x hp; omega)
    rw [xI] at ih
    rw [<- ih]
    have hb : decide (0 < y) = true := decide_eq_true hp
    simp! [cP, vE, fX hp, hb]
theorem AU {a b : Int} (h : 1 <= b) : 1 <= (Int.gcd a b : Int) := by
 have : Int.gcd a b ≠ 0 := fun z => by have := (Int.gcd_eq_zero_iff.mp z).2; omega
 omega
theorem VC {a b : Int} (h : 1 <= b) : (Int.gcd a b : Int) <= b := Int.le_of_dvd (by omega) (Int.gcd_dvd_right a b)
theorem wsm {y : Int} (h : 0 <= y) (h2 : y < 2 ^ 200) : y.natAbs < nZ := by
 have h1 : y.natAbs < 2 ^ 200 := by omega
 exact Nat.lt_of_lt_of_le h1 (Nat.pow_le_pow_right (by decide) (by decide))
theorem BI {x y : Int} (h : 0 < y) (h2 : y.natAbs < nZ) : sS x y = true := by simp [sS, h, h2]
theorem AA {a b : Int} (M : Sto) (ha : 0 <= a) (hb : 1 <= b) (hw : b.natAbs < nZ) : fD [I a, I b] M = some (.d (.tuple [.int (a / (Int.gcd a b : Int)), .int (b / (Int.gcd a b : Int))]), M) := by
 have h : jM [some (I a), some (I b), some (I a), some (I b)] M = _ := qA (pK M a b (b.toNat + 1) a b ha (by omega) (Nat.lt_succ_self _))
 have g1 := AU (a := a) hb
 have g2 := VC (a := a) hb
 have d1 : ∀ x, sS x (Int.gcd a b : Int) = true := fun x => BI (by omega) (Nat.lt_of_le_of_lt (by omega) hw)
 have sz : (2 : Nat) <= sizeLine := by decide
 simp! [fD, hV, h, d1, sz]
def Stm (M : Sto) (i : Nat) : Prop := ∃ a b : Int, M[i]? = some (.lst [I a, I b]) /\ 0 <= a /\ 0 <= b /\ b < 2 ^ 40
def Nxt (i : Nat) (M M' : Sto) : Prop := ∃ a b : Int, M' = M.set i (.lst [I a, I b]) /\ 0 <= a /\ 0 <= b /\ b < 2 ^ 40
theorem Stm.lt {M : Sto} {i : Nat} (h : Stm M i) : i < M.length := by
 obtain ⟨a, b, h, _⟩ := h
 exact (List.getElem?_eq_some_iff.mp h).1
theorem Nxt.stm {M M' : Sto} {i : Nat} (n : Nxt i M M') (h : Stm M i) : Stm M' i := by
 obtain ⟨a, b, rfl, r⟩ := n
 exact ⟨a, b, by rw [List.getElem?_set_self h.lt], r⟩
theorem Nxt.trans {M M1 M2 : Sto} {i : Nat} (n : Nxt i M M1) (m : Nxt i M1 M2) : Nxt i M M2 := by
 obtain ⟨a, b, rfl, _⟩ := n
 obtain ⟨c, d, rfl, r⟩ := m
 exact ⟨c, d, by rw [List.set_set], r⟩
theorem YJ {i : Nat} {x y : CD} {M : Sto} (h : M[i]? = some (.lst [x, y])) : ixF (.c i) (I 0) M = some (x, M) := by
 unfold ixF; dsimp only; rw [h]; rfl
theorem ZH {i : Nat} {x y : CD} {M : Sto} (h : M[i]? = some (.lst [x, y])) : ixF (.c i) (I 1) M = some (y, M) := by
 unfold ixF; dsimp only; rw [h]; rfl
theorem ZQ {i : Nat} {x y z : CD} {M : Sto} (h : M[i]? = some (.lst [x, y])) : tK (.c i) (I 0) z M = some (M.set i (.lst [z, y])) := by
 unfold tK; dsimp only; rw [h]; rfl
theorem YQ {i : Nat} {x y z : CD} {M : Sto} (h : M[i]? = some (.lst [x, y])) : tK (.c i) (I 1) z M = some (M.set i (.lst [x, z])) := by
 unfold tK; dsimp only; rw [h]; rfl
theorem tZ {x y : Int} (h : y.natAbs < 2 ^ 64) : nN x y = true := by simp only [nN, decide_eq_true h, Bool.or_true, Bool.true_or]
theorem fQ {M : Sto} {i : Nat} {m : Int} (h : Stm M i) (m0 : 0 < m) (m1 : m < 2 ^ 200) : ∃ r M', aS [.c i, I m] M = some (I r, M') /\ 0 <= r /\ r < m /\ Nxt i M M' := by
 obtain ⟨a, b, hM, a0, b0, b1⟩ := h
 have lt : i < M.length := (List.getElem?_eq_some_iff.mp hM).1
 cases e : (a == 0) with
 | true =>
  have q0 := Int.emod_nonneg (b * 48271 + 12345) (b := 2147483647) (by decide)
  have q1 := Int.emod_lt_of_pos (b * 48271 + 12345) (b := 2147483647) (by decide)
  have o1 : nN b 48271 = true := tZ (by decide)
  have o2 : lX (b * 48271 + 12345) 2147483647 = true := fX (by decide)
  obtain ⟨c, hc⟩ : ∃ c, (b * 48271 + 12345) % 2147483647 = c := ⟨_, rfl⟩
  rw [hc] at q0 q1
  have hM1 : (M.set i (.lst [I a, I c]))[i]? = some (.lst [I a, I c]) := by rw [List.getElem?_set_self lt]
  have o3 : nN c c = true := tZ (by omega)
  have o4 : lX (c * c) 2147483629 = true := fX (by decide)
  have o5 : lX (c * c % 2147483629) m = true := fX m0
  refine ⟨c * c % 2147483629 % m, M.set i (.lst [I a, I c]), ?_, Int.emod_nonneg _ (by omega), Int.emod_lt_of_pos _ m0, a, c, rfl, a0, q0, by omega⟩
  simp! [aS, gA, YJ hM, ZH hM, qG, nO, e, o1, o2, hc, YQ hM, ZH hM1, o3, o4, o5]
 | false =>
  have o1 : lX a m = true := fX m0
  have o2 : sS a m = true := BI m0 (wsm (by omega) m1)
  refine ⟨a % m, M.set i (.lst [I (a / m), I b]), ?_, Int.emod_nonneg _ (by omega), Int.emod_lt_of_pos _ m0, a / m, b, rfl, Int.ediv_nonneg a0 (by omega), b0, b1⟩
  simp! [aS, gA, YJ hM, qG, e, o1, o2, ZQ hM]
theorem ixL {ds : List PyData} {j : Nat} {d : PyData} {M : Sto} (h : ds[j]? = some d) : ixF (.d (.list ds)) (I j) M = some (.d d, M) := by
 have hlt : j < ds.length := (List.getElem?_eq_some_iff.mp h).1
 have e : atI ds (j : Int) = some d := AL h
 unfold ixF
 dsimp only
 show (some ds).bind _ = _
 rw [Option.bind_some, e]
 rfl
theorem QT {M : Sto} {i : Nat} {ds : List PyData} (h : Stm M i) (h0 : 0 < ds.length) (h1 : ds.length < 1000) : ∃ d M', fY [.c i, .d (.list ds)] M = some (.d d, M') /\ d ∈ ds /\ Nxt i M M' := by
 obtain ⟨r, M', e, r0, r1, n⟩ := fQ (m := (ds.length : Int)) h (by omega) (by omega)
 have hlt : r.toNat < ds.length := by omega
 have hd : ds[r.toNat]? = some ds[r.toNat] := List.getElem?_eq_getElem hlt
 have hr : (r.toNat : Int) = r := Int.toNat_of_nonneg r0
 have hx := ixL (M := M') hd
 rw [hr] at hx
 have hl : oI [.d (.list ds)] M = some (I ds.length, M) := rfl
 refine ⟨ds[r.toNat], M', ?_, List.getElem_mem hlt, n⟩
 simp! [fY, iW, hl, e, hx]
abbrev T2 (a b : Int) : CD := .d (.tuple [.int a, .int b])
theorem rP {a b : Int} (h0 : 0 <= a) (h1 : a <= 1000000000000) (h2 : 1 <= b) (h3 : b ∣ 55440) : fT (a / (Int.gcd a b : Int)) (b / (Int.gcd a b : Int)) = true := by
 have g1 := AU (a := a) h2
 have gd : ((Int.gcd a b : Int)) ∣ b := Int.gcd_dvd_right a b
 have e1 : 0 <= a / (Int.gcd a b : Int) := Int.ediv_nonneg h0 (by omega)
 have e2 : a / (Int.gcd a b : Int) <= 1000000000000 := Int.le_trans (Int.ediv_le_self _ h0) h1
 have e3 : 0 < b / (Int.gcd a b : Int) := Int.ediv_pos_of_pos_of_dvd (by omega) (by omega) gd
 have e4 : 55440 % (b / (Int.gcd a b : Int)) = 0 := Int.emod_eq_zero_of_dvd (Int.dvd_trans (Int.ediv_dvd_of_dvd gd) h3)
 have e5 : Int.gcd (a / (Int.gcd a b : Int)) (b / (Int.gcd a b : Int)) = 1 := Int.gcd_ediv_gcd_ediv_gcd (by omega)
 unfold fT
 rw [e4, e5, decide_eq_true e1, decide_eq_true (show 1 <= b / (Int.gcd a b : Int) by omega), decide_eq_true e2]
 rfl
def six : List PyData := [.tuple [.int 1, .int 1], .tuple [.int 1, .int 1], .tuple [.int 2, .int 1], .tuple [.int 1, .int 2], .tuple [.int 3, .int 4], .tuple [.int 0, .int 1]]
def belows : List PyData := [.int 1, .int 2, .int 3, .int 5, .int 7, .int 8, .int 9, .int 11, .int 12, .int 16, .int 35, .int 99, .int 720, .int 5040, .int 27720, .int 55440]
theorem IM {d : PyData} (h : d ∈ belows) : ∃ n : Int, d = .int n /\ 1 <= n /\ n ∣ 55440 /\ n <= 55440 := by
 unfold belows at h
 simp only [List.mem_cons, List.not_mem_nil, or_false] at h
 rcases h with rfl | rfl | rfl | rfl | rfl | rfl | rfl | rfl | rfl | rfl | rfl | rfl | rfl | rfl | rfl | rfl <;> exact ⟨_, rfl, by decide, by decide, by decide⟩
theorem QU {r : Int} (h0 : 0 <= r) (h1 : r < 6) (M : Sto) : ∃ a b, ixF (.d (.list six)) (I r) M = some (T2 a b, M) /\ fT a b = true := by
 have cs : r = 0 \/ r = 1 \/ r = 2 \/ r = 3 \/ r = 4 \/ r = 5 := by omega
 rcases cs with rfl | rfl | rfl | rfl | rfl | rfl <;> exact ⟨_, _, rfl, by decide⟩
theorem ZZ (γ : Ga) (M : Sto) : iQ γ M = some (.d (.list six), M) := rfl
theorem YN (γ : Ga) (M : Sto) : iR γ M = some (.d (.list belows), M) := rfl
theorem LQ {x y z w r : Int} (h0 : 0 <= r) (h1 : r < 4) (M : Sto) : ∃ c, ixF (.d (.list [.int x, .int y, .int z, .int w])) (I r) M = some (I c, M) /\ (c = x \/ c = y \/ c = z \/ c = w) := by
 have cs : r = 0 \/ r = 1 \/ r = 2 \/ r = 3 := by omega
 rcases cs with rfl | rfl | rfl | rfl
 · exact ⟨x, rfl, .inl rfl⟩
 · exact ⟨y, rfl, .inr (.inl rfl)⟩
 · exact ⟨z, rfl, .inr (.inr (.inl rfl))⟩
 · exact ⟨w, rfl, .inr (.inr (.inr rfl))⟩
theorem JF {M : Sto} {i : Nat} (h : Stm M i) : ∃ a b M', cB [.c i] M = some (T2 a b, M') /\ fT a b = true /\ Nxt i M M' := by
 obtain ⟨r, M1, e1, r0, r1, n1⟩ := fQ (m := 8) h (by decide) (by decide)
 have s1 := n1.stm h
 cases c : decide (r < 6) with
 | true =>
  obtain ⟨a, b, e2, w⟩ := QU r0 (of_decide_eq_true c) M1
  refine ⟨a, b, M1, ?_, w, n1⟩
  simp! [cB, dG, e1, c, ZZ, e2]
 | false =>
  obtain ⟨d, M2, e2, hd, n2⟩ := QT (ds := belows) s1 (by decide) (by decide)
  obtain ⟨n, rfl, b0, b1, b2⟩ := IM hd
  have s2 := n2.stm s1
  obtain ⟨t, M3, e3, t0, t1, n3⟩ := fQ (m := 1000) s2 (by decide) (by decide)
  have s3 := n3.stm s2
  cases c7 : (r == 7) with
  | false =>
   refine ⟨_, _, M3, ?_, rP t0 (by omega) b0 b1, (n1.trans n2).trans n3⟩
   simp! [cB, dG, e1, c, YN, e2, e3, qG, c7, AA M3 t0 b0 (wsm (by omega) (by omega))]
  | true =>
   obtain ⟨u, M4, e4, u0, u1, n4⟩ := fQ (m := 1000) s3 (by decide) (by decide)
   have s4 := n4.stm s3
   obtain ⟨v, M5, e5, v0, v1, n5⟩ := fQ (m := 4) s4 (by decide) (by decide)
   obtain ⟨x, e6, hx⟩ := LQ (x := 10 ^ (12 : Int).toNat) (y := 10 ^ (12 : Int).toNat - 1) (z := 1) (w := 10 ^ (9 : Int).toNat + u) v0 v1 M5
   have q1 : (10 : Int) ^ (12 : Int).toNat = 1000000000000 := rfl
   have q2 : (10 : Int) ^ (9 : Int).toNat = 1000000000 := rfl
   have x0 : 0 <= x /\ x <= 1000000000000 := by rw [q1, q2] at hx; omega
   have p1 : wQ 10 12 = true := by decide
   have p2 : wQ 10 9 = true := by decide
   have sz : (4 : Nat) <= sizeLine := by decide
   refine ⟨_, _, M5, ?_, rP x0.1 x0.2 b0 b1, (((n1.trans n2).trans n3).trans n4).trans n5⟩
   simp! [cB, dG, e1, c, YN, e2, e3, qG, c7, p1, p2, nO, e4, sz, e5, e6, AA M5 x0.1 b0 (wsm (by omega) (by omega))]
theorem vH {ns : List Int} {k : Int} {M : Sto} (k0 : 0 <= k) (k1 : k < 1000) : ∃ M', bL [.d (.list (ns.map .int)), I k] M = some (.c M.length, M') /\ Stm M' M.length := by
 have hl : oI [.d (.list (ns.map .int))] M = some (I ns.length, M) := by
  show some (I ((ns.map PyData.int).length : Nat), M) = _
  rw [List.length_map]
 have k2 : k <= 1000 := by omega
 have kq := Int.mul_le_mul k2 k2 k0 (by decide)
 have kk : 0 <= k * k /\ k * k <= 1000000 := ⟨Int.mul_nonneg k0 k0, by omega⟩
 have o1 : nN k k = true := tZ (by omega)
 have sz : (2 : Nat) <= sizeLine := by decide
 have last : ∀ x y : Int, 0 <= x -> 0 <= y -> y < 2 ^ 40 -> Stm (M ++ [.lst [I x, I y]]) M.length := fun x y h1 h2 h3 => ⟨x, y, by simp, h1, h2, h3⟩
 cases c : decide (k < (ns.length : Int)) with
 | false =>
  refine ⟨M ++ [.lst [I 0, I (k * k + 11)]], ?_, last _ _ (by decide) (by omega) (by omega)⟩
  simp! [bL, dN, hl, c, o1, nO, sz]
 | true =>
  have hk : k < (ns.length : Int) := of_decide_eq_true c
  have hlt : k.toNat < ns.length := by omega
  have hd : (ns.map PyData.int)[k.toNat]? = some (.int ns[k.toNat]) := by rw [List.getElem?_map, List.getElem?_eq_getElem hlt]; rfl
  have hx := ixL (M := M) hd
  rw [Int.toNat_of_nonneg k0] at hx
  generalize ns[k.toNat] = x at hx
  have o2 : lX x 2147483629 = true := fX (by decide)
  have p1 : wQ 10 18 = true := by decide
  have q0 := Int.emod_nonneg x (b := 2147483629) (by decide)
  have q1 := Int.emod_lt_of_pos x (b := 2147483629) (by decide)
  have q18 : (10 : Int) ^ (18 : Int).toNat = 1000000000000000000 := rfl
  cases c2 : decide (x < 10 ^ (18 : Int).toNat) with
  | true =>
   refine ⟨M ++ [.lst [I 0, I (x % 2147483629 + k * k + 1)]], ?_, last _ _ (by decide) (by omega) (by omega)⟩
   simp! [bL, dN, hl, c, hx, o1, o2, p1, nO, c2, sz]
  | false =>
   have := of_decide_eq_false c2
   refine ⟨M ++ [.lst [I x, I (x % 2147483629 + k * k + 1)]], ?_, last _ _ (by omega) (by omega) (by omega)⟩
   simp! [bL, dN, hl, c, hx, o1, o2, p1, nO, c2, sz]
def fA (x : PyData) : Bool := match bI x with
 | some [.int a, .int b] => fT a b
 | _ => false
def R2' (k : Bool) (p q : PyData) : PyData := if k then .list [p, q] else .tuple [p, q]
theorem HE (k : Bool) (p q : PyData) : bI (R2' k p q) = some [p, q] := by cases k <;> rfl
theorem OA {x : PyData} (h : eV x 2 = true) : ∃ k p q, x = R2' k p q := by
 obtain ⟨a, b, rfl | rfl⟩ := GZ h
 · exact ⟨true, a, b, rfl⟩
 · exact ⟨false, a, b, rfl⟩
theorem LI {x : PyData} (h : lE x = true) : ∃ k a b, x = P k a b := by
 have hr : eV x 2 = true := by
  cases e : eV x 2 with
  | true => rfl
  | false => rw [xE e] at h; cases h
 obtain ⟨k, p, q, rfl⟩ := OA hr
 unfold lE at h
 rw [HE] at h
 cases p <;> cases q <;> first | exact ⟨k, _, _, rfl⟩ | simp at h
theorem LH (k : Bool) (a b : Int) : fA (P k a b) = fT a b := by cases k <;> rfl
theorem vT {x : PyData} (h : lE x = false) : fA x = false := by
 unfold lE at h
 unfold fA
 split
 · rename_i a b e
   rw [e] at h
   dsimp only at h
   unfold fT
   rw [h]
   rfl
 · rfl
theorem wA (x : PyData) (M : Sto) : dB [.d x] M = some (B (fA x), M) := by
 cases h : lE x with
 | false =>
  rw [vT h]
  have e : bS [.d x] M = some (B false, M) := by simp! [bS, cI, bY, h]
  simp! [dB, eM, e]
 | true =>
  obtain ⟨k, a, b, rfl⟩ := LI h
  rw [LH]
  exact xM k a b M
theorem jF : ∀ ds : List PyData, iM (ds.map .d) = some ds
 | [] => rfl
 | d :: ds => by
  show (iM (ds.map .d)).map (d :: ·) = _
  rw [jF ds]
  rfl
theorem YB (i : Int) : asI (I i) = some i := rfl
structure Tie where
 i : Int
 j : Int
 a : Int
 b : Int
deriving DecidableEq
def Tie.key (t : Tie) : List Key := [.inl t.i, .inl t.j]
def Tie.val (t : Tie) : CD := .d (.tuple [.int t.a, .int t.b])
def aU (ts : List Tie) : List (List Key × CD) := ts.map fun t => (t.key, t.val)
theorem LJ {ts : List Tie} {t : Tie} (h : ∀ s ∈ ts, s.key ≠ t.key) : lkC (aU ts) t.key = none := by
 unfold lkC aU
 rw [List.find?_map]
 have : List.find? ((fun kv => decide (kv.1 = t.key)) ∘ fun s : Tie => (s.key, s.val)) ts = none := List.find?_eq_none.mpr fun s hs => by simpa using h s hs
 rw [this]
 rfl
theorem zR {ts : List Tie} {t : Tie} (h : ∀ s ∈ ts, s.key ≠ t.key) : putD (aU ts) t.key t.val = aU (ts ++ [t]) := by
 unfold putD
 have : ((aU ts).any fun kv => decide (kv.1 = t.key)) = false := by
  rw [aU, List.any_map]
  exact List.any_eq_false.mpr fun s hs => by simpa using h s hs
 rw [this, if_neg Bool.false_ne_true]
 unfold aU
 rw [List.map_append]
 rfl
theorem sz {n : Nat} (hn : n <= 1000) : n <= sizeLine := by rw [sizeLine_eq]; exact Nat.le_trans hn (by decide)
def f1 (t : Tie) : List PyData := [.tuple [.int t.i, .int t.j], .tuple [.int t.a, .int t.b]]
def f2 (t : Tie) : List PyData := [.int t.i, .int t.j, .tuple [.int t.a, .int t.b]]
theorem JD {a b c d : Int} : PyData.eqv (.tuple [.int a, .int b]) (.tuple [.int c, .int d]) = (a == c && (b == d && true)) := rfl
theorem yI {f : Tie -> List PyData} {us : List Tie} {i : Nat} (h : i < us.length) : (us.map f).getD i [] = f us[i] := by
 rw [List.getD_eq_getElem?_getD, List.getElem?_map, List.getElem?_eq_getElem h]; rfl
def t0 : Tie := ⟨0, 0, 0, 0⟩
theorem CA (us : List Tie) : (List.range us.length).map (fun i => us.getD i t0) = us := by
 refine List.ext_getElem? fun i => ?_
 rw [List.getElem?_map]
 by_cases h : i < us.length
 · rw [List.getElem?_range h, List.getElem?_eq_getElem h]
   show some (us.getD i t0) = _
   rw [List.getD_eq_getElem?_getD, List.getElem?_eq_getElem h]; rfl
 · rw [List.getElem?_eq_none (by rw [List.length_range]; omega), List.getElem?_eq_none (by omega)]; rfl
theorem SL {us : List Tie} {i : Nat} (h : i < us.length) : us.getD i t0 = us[i] := by
 rw [List.getD_eq_getElem?_getD, List.getElem?_eq_getElem h]; rfl
theorem YM (s t : Tie) : (iP (f1 s) (f1 t)).isSome = true := by
 unfold f1 iP
 rw [JD]
 split
 · unfold iP
   rw [JD]
   split
   · rfl
   · rfl
 · rfl
theorem MM {us : List Tie} (h64 : us.length < 64) : ∃ vs : List Tie, vs.Perm us /\ jT (us.map f1) = some (vs.map fun t => .tuple (f1 t)) := by
 by_cases h2 : 2 <= us.length
 · have ab : sortable (us.map f1) = true := by
    have hd : jE (us.map f1) = true := by unfold jE; rw [List.all_map]; exact List.all_eq_true.mpr fun t _ => rfl
    unfold sortable
    rw [List.length_map, decide_eq_true h2, decide_eq_true h64, hd, Bool.or_true, Bool.true_and, Bool.true_and, Bool.and_true, Bool.and_eq_true]
    refine ⟨List.all_eq_true.mpr fun r hr => ?_, List.all_eq_true.mpr fun i hi => List.all_eq_true.mpr fun j hj => ?_⟩
    · obtain ⟨t, _, rfl⟩ := List.mem_map.mp hr
      rfl
    · rw [yI (List.mem_range.mp hi), yI (List.mem_range.mp hj)]
      exact YM _ _
   have pm := iV (n := (us.map f1).length) (lO (us.map f1)) (by rw [List.length_map]; omega)
   rw [List.length_map] at pm
   have mem : ∀ i ∈ fK (lO (us.map f1)) us.length, i < us.length := fun i hi => List.mem_range.mp (pm.mem_iff.mp hi)
   have sd : HJ (us.map f1) = ((fK (lO (us.map f1)) us.length).map fun i => us.getD i t0).map fun t => .tuple (f1 t) := by
    unfold HJ
    rw [List.length_map, List.map_map]
    refine List.map_congr_left fun i hi => ?_
    show PyData.tuple ((us.map f1).getD i []) = .tuple (f1 (us.getD i t0))
    rw [yI (mem i hi), SL (mem i hi)]
   refine ⟨(fK (lO (us.map f1)) us.length).map fun i => us.getD i t0, ?_, ?_⟩
   · have := pm.map fun i => us.getD i t0
     rwa [CA] at this
   · unfold jT
     rw [ab, if_pos rfl, sd]
 · have hl : us.length < 2 := by omega
   refine ⟨us, .refl _, ?_⟩
   unfold jT
   have : sortable (us.map f1) = false := by
    unfold sortable
    rw [List.length_map, decide_eq_false h2]; rfl
   rw [this, if_neg Bool.false_ne_true, List.length_map, if_pos hl, List.map_map]
   rfl
def big (t : Tie) : Bool := decide (t.a > 0)
def cN (vs : List Tie) : List PyData := (vs.filter big).map fun t => .tuple (f2 t)
theorem mF {cap : List (Option Nat)} {f : AF} {g : GF} {c : TF} {ee : EF} {γ : Ga} {M M1 M2 : Sto} {xs : List CD} {ds : List PyData} (it : f γ M = some (xs, M1)) (hl : xs.length <= sizeLine) (e : lcF g c ee xs (lF cap γ) M1 = some (ds.map .d, M2)) (hd : ds.length <= sizeLine) : fLc cap f g c ee γ M = some (.d (.list ds), M2) := by
 have h1 : nR cap f g c ee γ M = some (ds.map .d, M2) := by
  unfold nR
  rw [it, Option.bind_some, if_pos hl]
  exact e
 show (nR cap f g c ee γ M).bind _ = _
 rw [h1, Option.bind_some, jF, Option.bind_some, if_pos hd]
abbrev kG : GF := gO 2 (aX (gO 2 (aX (hName 0) (aX (hName 1) gM))) (aX (hName 2) gM))
abbrev kC : TF := gB (fOp gtI (fOp ixF (aD 2) (fC (.int 0))) (fC (.int 0)))
abbrev kE : EF := fE (aC (aD 0) (aC (aD 1) (aC (aD 2) aI)))
theorem rO {M : Sto} : ∀ (vs : List Tie) (s1 s2 s3 : Option CD), lcF kG kC kE (vs.map fun t => .d (.tuple (f1 t))) [s1, s2, s3] M = some ((cN vs).map .d, M)
 | [], _, _, _ => rfl
 | t :: vs, s1, s2, s3 => by
  have ih := rO (M := M) vs (some (I t.i)) (some (I t.j)) (some (.d (.tuple [.int t.a, .int t.b])))
  have g1 : kG (.d (.tuple (f1 t))) [s1, s2, s3] M = some ([some (I t.i), some (I t.j), some (.d (.tuple [.int t.a, .int t.b]))], M) := rfl
  have c1 : kC [some (I t.i), some (I t.j), some (.d (.tuple [.int t.a, .int t.b]))] M = some (big t, M) := rfl
  have e1 : kE [some (I t.i), some (I t.j), some (.d (.tuple [.int t.a, .int t.b]))] M = some (.d (.tuple (f2 t)), M) := by
   have l3 : 3 <= sizeLine := sz (by decide)
   simp! [kE, f2, if_pos l3, Nat.zero_add]
  rw [List.map_cons]
  unfold lcF
  rw [g1, Option.bind_some]
  dsimp only
  rw [c1, Option.bind_some]
  dsimp only
  by_cases hb : big t = true
  · rw [if_pos hb, e1, Option.bind_some]
    dsimp only
    rw [ih, Option.bind_some]
    unfold cN
    rw [List.filter_cons_of_pos hb]
    rfl
  · rw [if_neg hb, ih]
    unfold cN
    rw [List.filter_cons_of_neg hb]
theorem uZ : ∀ us : List Tie, rU (aU us) = some (us.map fun t => (t.key, .tuple [.int t.a, .int t.b]))
 | [] => rfl
 | t :: us => by
  show (rU (aU us)).bind _ = _
  rw [uZ us]
  rfl
theorem OG (us : List Tie) : (us.map fun t => (t.key, PyData.tuple [.int t.a, .int t.b])).map vK = us.map f1 := by
 rw [List.map_map]; rfl
theorem JN {vs : List Tie} (h : vs.length <= 1000) : (cN vs).length <= sizeLine := by
 unfold cN
 rw [List.length_map]
 exact sz (Nat.le_trans (List.length_filter_le ..) h)
def aN (us : List Tie) : List PyData := us.map fun t => .tuple (f2 t)
def Ok (n : Int) (us : List Tie) : Prop := (∀ t ∈ us, fT t.a t.b = true /\ 0 <= t.i /\ t.i < t.j /\ t.j < n) /\ (us.map Tie.key).Nodup /\ us.length < 64
theorem yG {us : List Tie} (nd : (us.map Tie.key).Nodup) : ((us.filter big).map Tie.key).Nodup := (List.filter_sublist.map Tie.key).nodup nd
theorem xP {N : Sto} : ∀ (ws ts : List Tie) (s1 s2 s3 : Option CD), ((ts ++ ws).map Tie.key).Nodup -> ts.length + ws.length < 1000 ->
 dcF N.length (gO 3 (aX (hName 0) (aX (hName 1) (aX (hName 2) gM)))) fS (uP (aC (aD 0) (aC (aD 1) aI))) (aD 2) ((aN ws).map .d) [s1, s2, s3] (N ++ [.dt (aU ts)]) = some (N ++ [.dt (aU (ts ++ ws))])
 | [], ts, _, _, _, _, _ => by rw [List.append_nil]; rfl
 | t :: ws, ts, s1, s2, s3, nd, hl => by
  have nk : ∀ s ∈ ts, s.key ≠ t.key := fun s hs q => by
   rw [List.map_append, List.nodup_append] at nd
   exact nd.2.2 _ (List.mem_map_of_mem hs) _ (by rw [List.map_cons]; exact List.mem_cons_self) q
  have ih := xP (N := N) ws (ts ++ [t]) (some (I t.i)) (some (I t.j)) (some t.val) (by rw [List.append_assoc]; exact nd) (by rw [List.length_append]; simp only [List.length_cons, List.length_nil] at hl ⊢; omega)
  have hD : (N ++ [.dt (aU ts)])[N.length]? = some (.dt (aU ts)) := by rw [List.getElem?_append_right (Nat.le_refl _), Nat.sub_self]; rfl
  have len : (aU ts).length < sizeLine := by unfold aU; rw [List.length_map, sizeLine_eq]; omega
  have st : oF (N ++ [.dt (aU ts)]) (.c N.length) (.inr t.key) t.val = some (N ++ [.dt (aU (ts ++ [t]))]) := by
   simp only [oF, hD, if_pos len, zR nk]
   rw [List.set_append_right _ _ (Nat.le_refl _), Nat.sub_self]
   rfl
  have l2 : (Tie.key t).length <= sizeLine := sz (show 2 <= 1000 by decide)
  have kf : uP (aC (aD 0) (aC (aD 1) aI)) [some (I t.i), some (I t.j), some t.val] (N ++ [.dt (aU ts)]) = some (.inr t.key, N ++ [.dt (aU ts)]) := by
   have kk : keysOf [I t.i, I t.j] = some t.key := rfl
   simp! [uP, kk, if_pos l2]
  show dcF _ _ _ _ _ (.d (.tuple (f2 t)) :: (aN ws).map .d) [s1, s2, s3] _ = _
  unfold dcF
  rw [show gO 3 (aX (hName 0) (aX (hName 1) (aX (hName 2) gM))) (.d (.tuple (f2 t))) [s1, s2, s3] (N ++ [.dt (aU ts)]) = some ([some (I t.i), some (I t.j), some t.val], N ++ [.dt (aU ts)]) from rfl, Option.bind_some]
  dsimp only
  rw [show fS [some (I t.i), some (I t.j), some t.val] (N ++ [.dt (aU ts)]) = some (true, N ++ [.dt (aU ts)]) from rfl, Option.bind_some]
  dsimp only
  rw [if_pos rfl, kf, Option.bind_some]
  dsimp only
  rw [show aD 2 [some (I t.i), some (I t.j), some t.val] (N ++ [.dt (aU ts)]) = some (t.val, N ++ [.dt (aU ts)]) from rfl, Option.bind_some]
  dsimp only
  rw [st, Option.bind_some, ih, List.append_assoc]
  rfl
def LS (w : Nat) (n : Int) (vs : List Tie) : Cell := .obj "Web" [("many", I n), ("ties", .d (.tuple (cN vs))), ("weights", .c (w + 2))]
def yM (w : Nat) (n : Int) (us vs : List Tie) : List Cell := [LS w n vs, .dt (aU us), .dt (aU (vs.filter big))]
theorem zA {M L : Sto} {fs : List (Str × CD)} : objOf "Web" (M ++ (.obj "Web" fs :: L)) (.c M.length) = some (M.length, fs) := by
 have : (M ++ (Cell.obj "Web" fs :: L))[M.length]? = some (.obj "Web" fs) := by rw [List.getElem?_append_right (Nat.le_refl _), Nat.sub_self]; rfl
 simp only [objOf, this, if_true]
theorem mT {M L : Sto} {c c' : Cell} : (M ++ (c :: L)).set M.length c' = M ++ (c' :: L) := by
 rw [List.set_append_right _ _ (Nat.le_refl _), Nat.sub_self]; rfl
def R3 (k : Bool) (p q w : PyData) : PyData := if k then .list [p, q, w] else .tuple [p, q, w]
theorem lT (k : Bool) (p q w : PyData) : bI (R3 k p q w) = some [p, q, w] := by cases k <;> rfl
theorem LW {x : PyData} (h : eV x 3 = true) : ∃ k p q w, x = R3 k p q w := by
 have aux : ∀ ds : List PyData, ((ds.length : Int) == 3) = true -> ∃ p q w, ds = [p, q, w] := fun ds h => by
  match ds, h with
  | [p, q, w], _ => exact ⟨p, q, w, rfl⟩
  | [], h => exact absurd h (by decide)
  | [_], h => exact absurd h (by simp)
  | [_, _], h => exact absurd h (by simp)
  | _ :: _ :: _ :: _ :: r, h =>
   have : ((r.length + 1 + 1 + 1 + 1 : Nat) : Int) = 3 := by simpa using h
   omega
 cases x with
 | list ds => obtain ⟨p, q, w, rfl⟩ := aux ds h; exact ⟨true, p, q, w, rfl⟩
 | tuple ds => obtain ⟨p, q, w, rfl⟩ := aux ds h; exact ⟨false, p, q, w, rfl⟩
 | _ => cases h
def plc (n : Int) : PyData -> Bool
 | .int i => decide (0 <= i) && decide (i < n)
 | _ => false
theorem kZ (n : Int) (p : PyData) (M : Sto) : eJ [I n, .d p] M = some (B (plc n p), M) := by
 cases hp : lR p with
 | false =>
  have e : plc n p = false := by cases p <;> first | rfl | cases hp
  rw [e]
  simp! [eJ, iA, fM, hp]
 | true =>
  obtain ⟨i, rfl⟩ : ∃ i, p = .int i := by cases p <;> first | exact ⟨_, rfl⟩ | cases hp
  have hc : plc n (.int i) = (decide (0 <= i) && decide (i < n)) := rfl
  rw [hc]
  cases h0 : decide (0 <= i) <;> simp! [eJ, iA, fM, hp, h0, Bool.true_and, Bool.false_and]
def ulk (n : Int) (p q : PyData) : Bool := match p, q with
 | .int i, .int j => plc n p && (plc n q && !(i == j))
 | _, _ => false
theorem oU {n : Int} {p : PyData} (h : plc n p = true) : ∃ i, p = .int i /\ 0 <= i /\ i < n := by
 cases p with
 | int i => simp only [plc, Bool.and_eq_true, decide_eq_true_eq] at h; exact ⟨i, rfl, h.1, h.2⟩
 | _ => cases h
theorem QM (n : Int) (p q : PyData) (M : Sto) : bH [I n, .d p, .d q] M = some (B (ulk n p q), M) := by
 cases h1 : plc n p with
 | false =>
  have e : ulk n p q = false := by
   unfold ulk
   split
   · rw [h1]; rfl
   · rfl
  rw [e]
  simp! [bH, bQ, kZ, h1]
 | true =>
  obtain ⟨i, rfl, _⟩ := oU h1
  cases h2 : plc n q with
  | false =>
   have e : ulk n (.int i) q = false := by
    unfold ulk
    split
    · rw [h2, Bool.false_and, Bool.and_false]
    · rfl
   rw [e]
   simp! [bH, bQ, kZ, h1, h2]
  | true =>
   obtain ⟨j, rfl, _⟩ := oU h2
   have e : ulk n (.int i) (.int j) = !(i == j) := by show (plc n (.int i) && (plc n (.int j) && !(i == j))) = _; rw [h1, h2]; rfl
   rw [e]
   simp! [bH, bQ, kZ, h1, h2, TQ]
def eX (n : Int) (r : PyData) : Option Tie := match bI r with
 | some [.int i, .int j, w] => match bI w with
  | some [.int a, .int b] => if 0 <= i /\ i < j /\ j < n /\ fT a b = true then some ⟨i, j, a, b⟩ else none
  | _ => none
 | _ => none
theorem BW {w : PyData} (h : fA w = true) : ∃ a b, bI w = some [.int a, .int b] /\ fT a b = true := by
 unfold fA at h
 split at h
 · rename_i a b e; exact ⟨a, b, e, h⟩
 · cases h
theorem AB {n i j a b : Int} {r w : PyData} (hr : bI r = some [.int i, .int j, w]) (hw : bI w = some [.int a, .int b]) (h : 0 <= i /\ i < j /\ j < n /\ fT a b = true) : eX n r = some ⟨i, j, a, b⟩ := by
 unfold eX
 rw [hr]; dsimp only; rw [hw]; dsimp only; rw [if_pos h]
theorem lH {n : Int} {r : PyData} {t : Tie} (h : eX n r = some t) : ∃ w, bI r = some [.int t.i, .int t.j, w] /\ bI w = some [.int t.a, .int t.b] /\ 0 <= t.i /\ t.i < t.j /\ t.j < n /\ fT t.a t.b = true := by
 unfold eX at h
 split at h
 · rename_i i j w hr
   split at h
   · rename_i a b hw
     split at h
     · rename_i c
       cases h
       exact ⟨w, hr, hw, c⟩
     · cases h
   · cases h
 · cases h
theorem ix3 (k : Bool) (p q w : PyData) (M : Sto) : ixF (.d (R3 k p q w)) (I 0) M = some (.d p, M) /\ ixF (.d (R3 k p q w)) (I 1) M = some (.d q, M) /\ ixF (.d (R3 k p q w)) (I 2) M = some (.d w, M) := by cases k <;> exact ⟨rfl, rfl, rfl⟩
theorem JH (n : Int) (r : PyData) (M : Sto) : fF [I n, .d r] M = some (B (eX n r).isSome, M) := by
 cases h3 : eV r 3 with
 | false =>
  have e : eX n r = none := by
   cases h : eX n r with
   | none => rfl
   | some t =>
    obtain ⟨w, hr, _⟩ := lH h
    unfold eV at h3
    rw [hr] at h3
    cases h3
  have bt : aW [I n, .d r] M = some (B false, M) := by
   simp! [aW, bR, dY, h3]
  rw [e]
  simp! [fF, hJ, bt, Option.isSome_none]
 | true =>
  obtain ⟨k, p, q, w, rfl⟩ := LW h3
  obtain ⟨x0, x1, x2⟩ := ix3 k p q w M
  cases hu : ulk n p q with
  | false =>
   have e : eX n (R3 k p q w) = none := by
    cases h : eX n (R3 k p q w) with
    | none => rfl
    | some t =>
     obtain ⟨w', hr, _, i0, ij, jn, _⟩ := lH h
     rw [lT] at hr
     cases hr
     have : ulk n (.int t.i) (.int t.j) = true := by
      have ne : (!(t.i == t.j)) = true := by simp; omega
      show (plc n (.int t.i) && (plc n (.int t.j) && !(t.i == t.j))) = true
      rw [ne]
      simp only [plc, decide_eq_true i0, decide_eq_true jn, decide_eq_true (show t.i < n by omega), decide_eq_true (show (0:Int) <= t.j by omega), Bool.and_true, Bool.true_and]
     rw [this] at hu; cases hu
   have bt : aW [I n, .d (R3 k p q w)] M = some (B false, M) := by
    simp! [aW, bR, dY, h3, x0, x1, QM, hu]
   rw [e]
   simp! [fF, hJ, bt, Option.isSome_none]
  | true =>
   obtain ⟨i, j, rfl, rfl, i0, jn⟩ : ∃ i j, p = .int i /\ q = .int j /\ 0 <= i /\ j < n := by
    unfold ulk at hu
    split at hu
    · rename_i i j
      rw [Bool.and_eq_true, Bool.and_eq_true] at hu
      obtain ⟨i', e1, q1, _⟩ := oU hu.1
      obtain ⟨j', e2, _, q2⟩ := oU hu.2.1
      cases e1; cases e2
      exact ⟨i, j, rfl, rfl, q1, q2⟩
    · cases hu
   have bt : aW [I n, .d (R3 k (.int i) (.int j) w)] M = some (B (decide (i < j)), M) := by
    simp! [aW, bR, dY, h3, x0, x1, QM, hu]
   cases ij : decide (i < j) with
   | false =>
    have e : eX n (R3 k (.int i) (.int j) w) = none := by
     cases h : eX n (R3 k (.int i) (.int j) w) with
     | none => rfl
     | some t =>
      obtain ⟨w', hr, _, _, z, _⟩ := lH h
      rw [lT] at hr
      cases hr
      exact absurd z (of_decide_eq_false ij)
    rw [ij] at bt
    rw [e]
    simp! [fF, hJ, bt, Option.isSome_none]
   | true =>
    rw [ij] at bt
    have e : (eX n (R3 k (.int i) (.int j) w)).isSome = fA w := by
     cases hw : fA w with
     | true =>
      obtain ⟨a, b, w1, w2⟩ := BW hw
      rw [AB (lT ..) w1 ⟨i0, of_decide_eq_true ij, jn, w2⟩]
      rfl
     | false =>
      cases h : eX n (R3 k (.int i) (.int j) w) with
      | none => rfl
      | some t =>
       obtain ⟨w', hr, h2, _, _, _, h3'⟩ := lH h
       rw [lT] at hr
       cases hr
       unfold fA at hw
       rw [h2] at hw
       dsimp only at hw
       rw [h3'] at hw; cases hw
    rw [e]
    simp! [fF, hJ, bt, x2, wA]
abbrev LG (n : Int) (x : CD) (c k : Nat) (r : PyData) : Ga := [some (I n), some x, some (.c c), some (I (k : Nat)), some (.d r)]
def fG (k : Nat) (l : List PyData) : List CD := (l.zipIdx k).map fun p => .d (.tuple [.int (p.2 : Nat), p.1])
abbrev G2 : GF := gO 2 (aX (hName 3) (aX (hName 4) gM))
theorem YC {n : Int} {x : CD} {c k : Nat} {r : PyData} {g3 g4 : Option CD} {M : Sto} : G2 (.d (.tuple [.int (k : Nat), r])) [some (I n), some x, some (.c c), g3, g4] M = some (LG n x c k r, M) := rfl
theorem mH {M : Sto} {c : Cell} : (M ++ [c])[M.length]? = some c := by rw [List.getElem?_append_right (Nat.le_refl _), Nat.sub_self]; rfl
theorem ZV {w : PyData} {a b : Int} (h : bI w = some [.int a, .int b]) (M : Sto) : cA [.d w] M = some (.d (.tuple [.int a, .int b]), M) := by
 cases w <;> first | (cases h; rfl) | cases h
theorem VF {n : Int} {t : Tie} (h : fT t.a t.b = true /\ 0 <= t.i /\ t.i < t.j /\ t.j < n) : eX n (.tuple (f2 t)) = some t :=
 AB (w := .tuple [.int t.a, .int t.b]) rfl rfl ⟨h.2.1, h.2.2.1, h.2.2.2, h.1⟩
theorem DK {n : Int} {x : CD} {M : Sto} {k : Nat} {ts : List Tie} {t : Tie} (hl : ts.length < 1000) (ht : eX n (.tuple (f2 t)) = some t) (nk : ∀ s ∈ ts, s.key ≠ t.key) :
 dH (LG n x M.length k (.tuple (f2 t))) (M ++ [.dt (aU ts)]) = some (.nx (LG n x M.length k (.tuple (f2 t))), M ++ [.dt (aU (ts ++ [t]))]) := by
 have ti := JH n (.tuple (f2 t)) (M ++ [.dt (aU ts)])
 rw [ht, Option.isSome_some] at ti
 have x0 : ixF (.d (.tuple (f2 t))) (I 0) (M ++ [.dt (aU ts)]) = some (I t.i, M ++ [.dt (aU ts)]) := rfl
 have x1 : ixF (.d (.tuple (f2 t))) (I 1) (M ++ [.dt (aU ts)]) = some (I t.j, M ++ [.dt (aU ts)]) := rfl
 have x2 : ixF (.d (.tuple (f2 t))) (I 2) (M ++ [.dt (aU ts)]) = some (.d (.tuple [.int t.a, .int t.b]), M ++ [.dt (aU ts)]) := rfl
 have tu := ZV (w := .tuple [.int t.a, .int t.b]) rfl (M ++ [.dt (aU ts)])
 have hD : (M ++ [Cell.dt (aU ts)])[M.length]? = some (.dt (aU ts)) := mH
 have kk' : keysOf [I t.i, I t.j] = some t.key := rfl
 have l2 : (Tie.key t).length <= sizeLine := sz (show 2 <= 1000 by decide)
 have at_ : atD (M ++ [.dt (aU ts)]) (.c M.length) (.inr t.key) = some none := by simp only [atD, hD, LJ nk]
 have len : (aU ts).length < sizeLine := by unfold aU; rw [List.length_map, sizeLine_eq]; omega
 have st : oF (M ++ [.dt (aU ts)]) (.c M.length) (.inr t.key) (.d (.tuple [.int t.a, .int t.b])) = some (M ++ [.dt (aU (ts ++ [t]))]) := by
  have pn : putD (aU ts) t.key (.d (.tuple [.int t.a, .int t.b])) = aU (ts ++ [t]) := zR nk
  simp only [oF, hD, if_pos len, pn]
  rw [mT]
 simp! [dH, ti, oK, uP, x0, x1, x2, kk', if_pos l2, at_, mG, tu, st, Option.isSome_none]
theorem sL {n : Int} {x : CD} {M : Sto} : ∀ (ws ts : List Tie) (k : Nat) (g3 g4 : Option CD), ((ts ++ ws).map Tie.key).Nodup -> (∀ t ∈ ws, eX n (.tuple (f2 t)) = some t) -> ts.length + ws.length < 1000 ->
 ∃ g3' g4', eE G2 dH (fG k (aN ws)) [some (I n), some x, some (.c M.length), g3, g4] (M ++ [.dt (aU ts)]) = some (.nx [some (I n), some x, some (.c M.length), g3', g4'], M ++ [.dt (aU (ts ++ ws))])
 | [], ts, k, g3, g4, _, _, _ => ⟨g3, g4, by rw [List.append_nil]; rfl⟩
 | t :: ws, ts, k, g3, g4, nd, ok, hl => by
  have nk : ∀ s ∈ ts, s.key ≠ t.key := fun s hs e => by
   rw [List.map_append, List.nodup_append] at nd
   exact nd.2.2 _ (List.mem_map_of_mem hs) _ (List.mem_map_of_mem (List.mem_cons_self ..)) e
  rw [List.length_cons] at hl
  have tn := DK (n := n) (x := x) (M := M) (k := k) (ts := ts) (t := t) (by omega) (ok t (List.mem_cons_self ..)) nk
  have e : ts ++ t :: ws = ts ++ [t] ++ ws := by simp
  rw [e] at nd ⊢
  obtain ⟨a, b, h⟩ := sL (n := n) (x := x) (M := M) ws (ts ++ [t]) (k + 1) (some (I (k : Nat))) (some (.d (.tuple (f2 t)))) nd (fun s hs => ok s (List.mem_cons_of_mem _ hs)) (by rw [List.length_append, List.length_singleton]; omega)
  refine ⟨a, b, ?_⟩
  rw [<- h]
  show eE G2 dH (.d (.tuple [.int (k : Nat), .tuple (f2 t)]) :: fG (k + 1) (aN ws)) _ _ = _
  conv => lhs; unfold eE
  rw [YC, Option.bind_some]
  dsimp only
  rw [tn, Option.bind_some]
theorem LZ {n : Int} {d : PyData} {l : List PyData} {c : CD} {M : Sto} (hd : bI d = some l) : qP (aC (aD 1) aI) [some (I n), some (.d d), some c, none, none] M = some (fG 0 l, M) := by
 simp! [qP, hd]
 rfl
theorem NI {n : Int} {us : List Tie} {M : Sto} (ok : Ok n us) :
 ∃ vs : List Tie, vs.Perm us /\ eP [I n, .d (.list (aN us))] M = some (.d (.tuple (cN vs)), M ++ [.dt (aU us)]) := by
 obtain ⟨o1, nd, h64⟩ := ok
 obtain ⟨g3, g4, lp⟩ := sL (n := n) (x := .d (.list (aN us))) (M := M) us [] 0 none none (by rw [List.nil_append]; exact nd) (fun t ht => VF (o1 t ht)) (by rw [List.length_nil]; omega)
 rw [List.nil_append] at lp
 obtain ⟨vs, pm, sr⟩ := MM h64
 refine ⟨vs, pm, ?_⟩
 have rw1 : ET (.list (aN us)) = true := rfl
 have m0 : (M ++ [Cell.dt []]) = M ++ [.dt (aU [])] := rfl
 have hD : (M ++ [Cell.dt (aU us)])[M.length]? = some (.dt (aU us)) := mH
 have lv : vs.length < 64 := by rw [pm.length_eq]; exact h64
 have it : bZ (mV (aD 2)) [some (I n), some (.d (.list (aN us))), some (.c M.length), g3, g4] (M ++ [.dt (aU us)]) = some (vs.map fun t => .d (.tuple (f1 t)), M ++ [.dt (aU us)]) := by
  have s1 : mV (aD 2) [some (I n), some (.d (.list (aN us))), some (.c M.length), g3, g4] (M ++ [.dt (aU us)]) = some (.d (.list (vs.map fun t => .tuple (f1 t))), M ++ [.dt (aU us)]) := by
   simp! [mV, hD, uZ, OG, sr]
  unfold bZ
  rw [s1, Option.bind_some]
  show (some (vs.map fun t => PyData.tuple (f1 t))).bind _ = _
  rw [Option.bind_some, List.map_map]
  rfl
 have cp : gK [some (I n), some (.d (.list (aN us))), some (.c M.length), g3, g4] (M ++ [.dt (aU us)]) = some (.d (.list (cN vs)), M ++ [.dt (aU us)]) := by
  unfold gK
  exact mF it (sz (by rw [List.length_map]; omega)) (rO vs none none none) (JN (by omega))
 have tf : cA [.d (.list (cN vs))] (M ++ [.dt (aU us)]) = some (.d (.tuple (cN vs)), M ++ [.dt (aU us)]) := rfl
 have hi : bI (.list (aN us)) = some (aN us) := rfl
 simp! [eP, jR, JK, rw1, tO, m0, kH, LZ hi, lp, cp, tf]
theorem LP {n : Int} {us : List Tie} {M : Sto} (ok : Ok n us) (n1 : 1 <= n) (n40 : n <= 40) :
 ∃ vs : List Tie, vs.Perm us /\ cD [.c M.length, I n, .d (.list (aN us))] (M ++ [.obj "Web" []]) = some (.d .none, M ++ yM M.length n us vs) := by
 obtain ⟨vs, pm, k1⟩ := NI (M := M ++ [.obj "Web" [("many", I n)]]) ok
 obtain ⟨o1, nd, h64⟩ := ok
 refine ⟨vs, pm, ?_⟩
 have w1 : dR [I n] (M ++ [.obj "Web" []]) = some (B true, M ++ [.obj "Web" []]) := fM _ _
 have c1 : decide (n < 1) = false := decide_eq_false (by omega)
 have c2 : decide (n > 40) = false := decide_eq_false (by omega)
 have o1 : objOf "Web" (M ++ [.obj "Web" []]) (.c M.length) = some (M.length, []) := zA
 have s1 : (M ++ [Cell.obj "Web" []]).set M.length (.obj "Web" (qX "many" (I n) [])) = M ++ [.obj "Web" [("many", I n)]] := mT
 have k1 : eP [I n, .d (.list (aN us))] (M ++ [.obj "Web" [("many", I n)]]) = some (.d (.tuple (cN vs)), M ++ [.obj "Web" [("many", I n)], .dt (aU us)]) := by
  rw [k1, List.append_assoc]; rfl
 have o2 : objOf "Web" (M ++ [.obj "Web" [("many", I n)], .dt (aU us)]) (.c M.length) = some (M.length, ([("many", I n)] : List (Str × CD))) := zA
 have p2 : qX "ties" (.d (.tuple (cN vs))) ([("many", I n)] : List (Str × CD)) = ([("many", I n), ("ties", .d (.tuple (cN vs)))] : List (Str × CD)) := rfl
 have s2 : (M ++ [Cell.obj "Web" [("many", I n)], .dt (aU us)]).set M.length (.obj "Web" [("many", I n), ("ties", .d (.tuple (cN vs)))]) = M ++ [.obj "Web" [("many", I n), ("ties", .d (.tuple (cN vs)))], .dt (aU us)] := mT
 have o3 : ∀ L, objOf "Web" (M ++ (.obj "Web" [("many", I n), ("ties", .d (.tuple (cN vs)))] :: L)) (.c M.length) = some (M.length, ([("many", I n), ("ties", .d (.tuple (cN vs)))] : List (Str × CD))) := fun L => zA
 have lk : List.lookup ("ties" : Str) [("many", I n), ("ties", .d (.tuple (cN vs)))] = some (.d (.tuple (cN vs))) := rfl
 have it : bZ (lD "Web" "ties" (aD 0)) [some (.c M.length), some (I n), some (.d (.list (aN us)))] (M ++ [.obj "Web" [("many", I n), ("ties", .d (.tuple (cN vs)))], .dt (aU us)]) = some ((aN (vs.filter big)).map .d, M ++ [.obj "Web" [("many", I n), ("ties", .d (.tuple (cN vs)))], .dt (aU us)]) := by
  have : lD "Web" "ties" (aD 0) [some (.c M.length), some (I n), some (.d (.list (aN us)))] (M ++ [.obj "Web" [("many", I n), ("ties", .d (.tuple (cN vs)))], .dt (aU us)]) = some (.d (.tuple (cN vs)), M ++ [.obj "Web" [("many", I n), ("ties", .d (.tuple (cN vs)))], .dt (aU us)]) := by
   simp! [lD, o3, lk]
  unfold bZ
  rw [this]
  rfl
 have fl : (vs.filter big).length <= vs.length := List.length_filter_le ..
 have lv : vs.length < 64 := by rw [pm.length_eq]; exact h64
 have nv : (vs.map Tie.key).Nodup := (pm.map Tie.key).nodup_iff.mpr nd
 have ln : (M ++ [Cell.obj "Web" [("many", I n), ("ties", .d (.tuple (cN vs)))], .dt (aU us)]).length = M.length + 2 := by rw [List.length_append]; rfl
 have wc := xP (N := M ++ [.obj "Web" [("many", I n), ("ties", .d (.tuple (cN vs)))], .dt (aU us)]) (vs.filter big) [] none none none (by rw [List.nil_append]; exact yG nv) (by simp only [List.length_nil]; omega)
 rw [List.nil_append] at wc
 have dc : gT [some (.c M.length), some (I n), some (.d (.list (aN us)))] (M ++ [.obj "Web" [("many", I n), ("ties", .d (.tuple (cN vs)))], .dt (aU us)]) = some (.c (M.length + 2), M ++ [.obj "Web" [("many", I n), ("ties", .d (.tuple (cN vs)))], .dt (aU us), .dt (aU (vs.filter big))]) := by
  unfold gT fDc
  rw [it, Option.bind_some]
  dsimp only
  rw [show lF [none, none, none] [some (CD.c M.length), some (I n), some (.d (.list (aN us)))] = [none, none, none] from rfl, show (M ++ [Cell.obj "Web" [("many", I n), ("ties", CD.d (.tuple (cN vs)))], .dt (aU us)] ++ [Cell.dt []]) = M ++ [Cell.obj "Web" [("many", I n), ("ties", CD.d (.tuple (cN vs)))], .dt (aU us)] ++ [Cell.dt (aU [])] from rfl, wc, Option.bind_some, ln, List.append_assoc]
  rfl
 have p3 : qX "weights" (.c (M.length + 2)) ([("many", I n), ("ties", .d (.tuple (cN vs)))] : List (Str × CD)) = ([("many", I n), ("ties", .d (.tuple (cN vs))), ("weights", .c (M.length + 2))] : List (Str × CD)) := rfl
 have s3 : (M ++ [Cell.obj "Web" [("many", I n), ("ties", .d (.tuple (cN vs)))], .dt (aU us), .dt (aU (vs.filter big))]).set M.length (.obj "Web" [("many", I n), ("ties", .d (.tuple (cN vs))), ("weights", .c (M.length + 2))]) = M ++ yM M.length n us vs := mT
 have q0 : ([] : List (Str × CD)).length < 1000 := by decide
 have q1 : ([("many", I n)] : List (Str × CD)).length < 1000 := by show 1 < 1000; decide
 have q2 : ([("many", I n), ("ties", .d (.tuple (cN vs)))] : List (Str × CD)).length < 1000 := by show 2 < 1000; decide
 simp! [cD, iZ, w1, c1, c2, rQ, o1, s1, k1, o2, p2, s2, dc, o3, p3, s3, if_true, if_pos q0, if_pos q1, if_pos q2, show (0:Nat) < 1000 from by decide, show (0 + 1:Nat) < 1000 from by decide, show (1:Nat) < 1000 from by decide, show (2:Nat) < 1000 from by decide, show (0 + 1 + 1:Nat) < 1000 from by decide]
abbrev at0 (l : List Int) (p : Int) : Int := l.getD p.toNat 0
def cY (l : List Int) (t : Tie) : List Int := if t.a > 0 /\ at0 l t.i ≠ at0 l t.j then l.map (fun z => if z = at0 l t.j then at0 l t.i else z) else l
def zs (n : Nat) : List Int := (List.range n).map Int.ofNat
def cF (n : Nat) (us : List Tie) : List Int := us.foldl cY (zs n)
abbrev Inn (n : Nat) (p : Int) : Prop := 0 <= p /\ p < n
theorem gU (l : List Int) (t : Tie) : (cY l t).length = l.length := by
 unfold cY; split <;> simp
theorem IQ (us : List Tie) : ∀ l : List Int, (us.foldl cY l).length = l.length := by
 induction us with
 | nil => exact fun _ => rfl
 | cons t us ih => exact fun l => by rw [List.foldl_cons, ih, gU]
theorem kW (n : Nat) : (zs n).length = n := by simp [zs]
theorem OW {n : Nat} {p : Int} (h : Inn n p) : at0 (zs n) p = p := by
 have : p.toNat < n := by omega
 simp only [at0, zs, List.getD_eq_getElem?_getD, List.getElem?_map, List.getElem?_range this, Option.map_some, Option.getD_some]
 show ((p.toNat : Nat) : Int) = p
 omega
theorem gX {n : Nat} {l : List Int} {t : Tie} {p : Int} (hl : l.length = n) (hp : Inn n p) : at0 (cY l t) p = if t.a > 0 then (if at0 l p = at0 l t.j then at0 l t.i else at0 l p) else at0 l p := by
 have hp' : p.toNat < l.length := by omega
 unfold cY
 by_cases h1 : t.a > 0
 · rw [if_pos h1]
   by_cases h2 : at0 l t.i = at0 l t.j
   · rw [if_neg (fun h => h.2 h2), h2]
     split
     · assumption
     · rfl
   · rw [if_pos ⟨h1, h2⟩]
     simp only [at0, List.getD_eq_getElem?_getD, List.getElem?_map, List.getElem?_eq_getElem hp', Option.map_some, Option.getD_some]
 · rw [if_neg h1, if_neg (fun h => h1 h.1)]
theorem vU {n : Nat} : ∀ (us : List Tie) (l : List Int), l.length = n -> (∀ t ∈ us, Inn n t.i /\ Inn n t.j) -> ∀ p q, Inn n p -> Inn n q -> ((∃ t ∈ us, t.a > 0 /\ t.i = p /\ t.j = q) \/ at0 l p = at0 l q) -> at0 (us.foldl cY l) p = at0 (us.foldl cY l) q
 | [], l, _, _, p, q, _, _, h => by
  rcases h with ⟨t, ht, _⟩ | h
  · cases ht
  · exact h
 | u :: us, l, hl, ok, p, q, hp, hq, h => by
  rw [List.foldl_cons]
  refine vU us (cY l u) (by rw [gU, hl]) (fun t ht => ok t (List.mem_cons_of_mem _ ht)) p q hp hq ?_
  rcases h with ⟨t, ht, ha, hi, hj⟩ | h
  · rcases List.mem_cons.mp ht with e | ht
    · right
      subst e hi hj
      rw [gX hl hp, gX hl hq, if_pos ha, if_pos ha, if_pos rfl]
      split <;> rfl
    · exact .inl ⟨t, ht, ha, hi, hj⟩
  · right
    rw [gX hl hp, gX hl hq, h]
theorem pG {n : Nat} {S : Int -> Prop} : ∀ (us : List Tie) (l : List Int), l.length = n -> (∀ t ∈ us, Inn n t.i /\ Inn n t.j) -> (∀ t ∈ us, t.a > 0 -> (S t.i ↔ S t.j)) -> (∀ p q, Inn n p -> Inn n q -> at0 l p = at0 l q -> (S p ↔ S q)) ->
 ∀ p q, Inn n p -> Inn n q -> at0 (us.foldl cY l) p = at0 (us.foldl cY l) q -> (S p ↔ S q)
 | [], l, _, _, _, h => h
 | u :: us, l, hl, ok, cl, h => by
  rw [List.foldl_cons]
  refine pG us (cY l u) (by rw [gU, hl]) (fun t ht => ok t (List.mem_cons_of_mem _ ht)) (fun t ht => cl t (List.mem_cons_of_mem _ ht)) ?_
  intro p q hp hq e
  obtain ⟨ui, uj⟩ := ok u (List.mem_cons_self ..)
  rw [gX hl hp, gX hl hq] at e
  by_cases ha : u.a > 0
  · rw [if_pos ha, if_pos ha] at e
    have c := cl u (List.mem_cons_self ..) ha
    by_cases h1 : at0 l p = at0 l u.j
    · rw [if_pos h1] at e
      by_cases h2 : at0 l q = at0 l u.j
      · exact h p q hp hq (h1.trans h2.symm)
      · rw [if_neg h2] at e
        exact (h p u.j hp uj h1).trans (c.symm.trans (h u.i q ui hq e))
    · rw [if_neg h1] at e
      by_cases h2 : at0 l q = at0 l u.j
      · rw [if_pos h2] at e
        exact (h p u.i hp ui e).trans (c.trans (h u.j q uj hq h2.symm))
      · rw [if_neg h2] at e
        exact h p q hp hq e
  · rw [if_neg ha, if_neg ha] at e
    exact h p q hp hq e
theorem vW {n : Nat} {us : List Tie} {S : Int -> Prop} (ok : ∀ t ∈ us, Inn n t.i /\ Inn n t.j) (cl : ∀ t ∈ us, t.a > 0 -> (S t.i ↔ S t.j)) {p q : Int} (hp : Inn n p) (hq : Inn n q) (e : at0 (cF n us) p = at0 (cF n us) q) : S p ↔ S q :=
 pG us (zs n) (kW n) ok cl (fun p q hp hq e => by rw [OW hp, OW hq] at e; rw [e]) p q hp hq e
theorem DA {n : Nat} {us : List Tie} (ok : ∀ t ∈ us, Inn n t.i /\ Inn n t.j) {t : Tie} (ht : t ∈ us) (ha : t.a > 0) : at0 (cF n us) t.i = at0 (cF n us) t.j :=
 vU us (zs n) (kW n) ok t.i t.j (ok t ht).1 (ok t ht).2 (.inl ⟨t, ht, ha, rfl, rfl⟩)
def qZ (A : List (List Int)) (p q : Int) : List (List Int) := A.set p.toNat (A.getD p.toNat [] ++ [q])
def oG (A : List (List Int)) (t : Tie) : List (List Int) := qZ (qZ A t.i t.j) t.j t.i
def iC (n : Nat) (ts : List Tie) : List (List Int) := ts.foldl oG (List.replicate n [])
theorem oV (A : List (List Int)) (p q : Int) : (qZ A p q).length = A.length := by simp [qZ]
theorem pS (A : List (List Int)) (t : Tie) : (oG A t).length = A.length := by simp [oG, oV]
theorem KR (ts : List Tie) : ∀ A : List (List Int), (ts.foldl oG A).length = A.length := by
 induction ts with
 | nil => exact fun _ => rfl
 | cons t us ih => exact fun l => by rw [List.foldl_cons, ih, pS]
theorem zX {A : List (List Int)} {p q r : Int} {n : Nat} (hl : A.length = n) (hp : Inn n p) (hr : Inn n r) (x : Int) : x ∈ (qZ A p q).getD r.toNat [] ↔ (x ∈ A.getD r.toNat [] \/ (p = r /\ x = q)) := by
 have hr' : r.toNat < A.length := by omega
 unfold qZ
 rw [List.getD_eq_getElem?_getD, List.getElem?_set]
 by_cases h : p.toNat = r.toNat
 · have e : p = r := by omega
   subst e
   rw [if_pos rfl, if_pos hr', Option.getD_some, List.mem_append, List.mem_singleton]
   simp
 · have e : p ≠ r := fun e => h (by rw [e])
   rw [if_neg h, <- List.getD_eq_getElem?_getD]
   simp [e]
theorem BA {n : Nat} : ∀ (ts : List Tie) (A : List (List Int)), A.length = n -> (∀ t ∈ ts, Inn n t.i /\ Inn n t.j) -> ∀ r x, Inn n r ->
 (x ∈ (ts.foldl oG A).getD r.toNat [] ↔ (x ∈ A.getD r.toNat [] \/ ∃ t ∈ ts, (t.i = r /\ x = t.j) \/ (t.j = r /\ x = t.i)))
 | [], A, _, _, r, x, _ => by simp
 | t :: ts, A, hl, ok, r, x, hr => by
  obtain ⟨ti, tj⟩ := ok t (List.mem_cons_self ..)
  rw [List.foldl_cons, BA ts (oG A t) (by rw [pS, hl]) (fun s hs => ok s (List.mem_cons_of_mem _ hs)) r x hr]
  unfold oG
  rw [zX (by rw [oV, hl]) tj hr, zX hl ti hr]
  simp only [List.mem_cons, exists_eq_or_imp, or_assoc]
theorem pL {n : Nat} {ts : List Tie} (ok : ∀ t ∈ ts, Inn n t.i /\ Inn n t.j) {r x : Int} (hr : Inn n r) : x ∈ (iC n ts).getD r.toNat [] ↔ ∃ t ∈ ts, (t.i = r /\ x = t.j) \/ (t.j = r /\ x = t.i) := by
 unfold iC
 rw [BA ts _ (by simp) ok r x hr]
 have : (List.replicate n ([] : List Int)).getD r.toNat [] = [] := by
  rw [List.getD_eq_getElem?_getD, List.getElem?_replicate]
  split <;> rfl
 rw [this]
 simp
def see (s : List Int × List Int) (x : Int) : List Int × List Int := if x ∈ s.1 then s else (s.1 ++ [x], s.2 ++ [x])
theorem uL {n : Nat} {P : Int -> Prop} : ∀ (xs fs ws : List Int), (∀ x ∈ xs, Inn n x /\ P x) -> fs.Nodup -> (∀ x ∈ fs, Inn n x /\ P x) ->
 ∃ new : List Int, xs.foldl see (fs, ws) = (fs ++ new, ws ++ new) /\ (fs ++ new).Nodup /\ (∀ x ∈ new, Inn n x /\ P x) /\ (∀ x ∈ xs, x ∈ fs ++ new)
 | [], fs, ws, _, nd, _ => ⟨[], by rw [List.append_nil, List.append_nil]; rfl, by rw [List.append_nil]; exact nd, (by intro x hx; cases hx), (by intro x hx; cases hx)⟩
 | x :: xs, fs, ws, hx, nd, hf => by
  rw [List.foldl_cons]
  have hx' : ∀ y ∈ xs, Inn n y /\ P y := fun y hy => hx y (List.mem_cons_of_mem _ hy)
  by_cases h : x ∈ fs
  · have e : see (fs, ws) x = (fs, ws) := by unfold see; rw [if_pos h]
    rw [e]
    obtain ⟨new, h1, h2, h3, h4⟩ := uL xs fs ws hx' nd hf
    refine ⟨new, h1, h2, h3, fun y hy => ?_⟩
    rcases List.mem_cons.mp hy with rfl | hy
    · exact List.mem_append_left _ h
    · exact h4 y hy
  · have e : see (fs, ws) x = (fs ++ [x], ws ++ [x]) := by unfold see; rw [if_neg h]
    rw [e]
    have nd' : (fs ++ [x]).Nodup := by
     rw [List.nodup_append]
     exact ⟨nd, by simp, fun a ha b hb => by rw [List.mem_singleton] at hb; rw [hb]; exact fun q => h (q ▸ ha)⟩
    have hf' : ∀ y ∈ fs ++ [x], Inn n y /\ P y := fun y hy => by
     rcases List.mem_append.mp hy with hy | hy
     · exact hf y hy
     · rw [List.mem_singleton] at hy; rw [hy]; exact hx x (List.mem_cons_self ..)
    obtain ⟨new, h1, h2, h3, h4⟩ := uL xs (fs ++ [x]) (ws ++ [x]) hx' nd' hf'
    refine ⟨x :: new, ?_, ?_, ?_, ?_⟩
    · rw [h1, List.append_assoc, List.append_assoc]; rfl
    · rw [List.append_assoc] at h2; exact h2
    · intro y hy
      rcases List.mem_cons.mp hy with rfl | hy
      · exact hx y (List.mem_cons_self ..)
      · exact h3 y hy
    · intro y hy
      have r : fs ++ [x] ++ new = fs ++ x :: new := by rw [List.append_assoc]; rfl
      rw [<- r]
      rcases List.mem_cons.mp hy with rfl | hy
      · exact List.mem_append_left _ (List.mem_append_right _ (List.mem_singleton.mpr rfl))
      · exact h4 y hy
structure Srch (n : Nat) (A : List (List Int)) (P : Int -> Prop) (p : Int) (fs ws : List Int) : Prop where
 nd : fs.Nodup
 ok : ∀ x ∈ fs, Inn n x /\ P x
 has : p ∈ fs
 sub : ∀ x ∈ ws, x ∈ fs
 cl : ∀ u ∈ fs, u ∈ ws \/ ∀ v ∈ A.getD u.toNat [], v ∈ fs
theorem Srch.start {n : Nat} {A : List (List Int)} {P : Int -> Prop} {p : Int} (hp : Inn n p) (h : P p) : Srch n A P p [p] [p] :=
 ⟨by simp, fun x hx => by rw [List.mem_singleton] at hx; rw [hx]; exact ⟨hp, h⟩, List.mem_singleton.mpr rfl, fun x hx => hx, fun u hu => .inl hu⟩
theorem Srch.step {n : Nat} {A : List (List Int)} {P : Int -> Prop} {p u : Int} {fs ws : List Int} (h : Srch n A P p fs (ws ++ [u])) (hA : ∀ x y, Inn n x -> P x -> y ∈ A.getD x.toNat [] -> Inn n y /\ P y) :
 ∃ new, (A.getD u.toNat []).foldl see (fs, ws) = (fs ++ new, ws ++ new) /\ Srch n A P p (fs ++ new) (ws ++ new) := by
 have hu := h.ok u (h.sub u (List.mem_append_right _ (List.mem_singleton.mpr rfl)))
 obtain ⟨new, h1, h2, h3, h4⟩ := uL (n := n) (P := P) (A.getD u.toNat []) fs ws (fun x hx => hA u x hu.1 hu.2 hx) h.nd h.ok
 refine ⟨new, h1, h2, fun x hx => ?_, List.mem_append_left _ h.has, fun x hx => ?_, fun v hv => ?_⟩
 · rcases List.mem_append.mp hx with hx | hx
   · exact h.ok x hx
   · exact h3 x hx
 · rcases List.mem_append.mp hx with hx | hx
   · exact List.mem_append_left _ (h.sub x (List.mem_append_left _ hx))
   · exact List.mem_append_right _ hx
 · rcases List.mem_append.mp hv with hv | hv
   · rcases h.cl v hv with w | w
     · rcases List.mem_append.mp w with w | w
       · exact .inl (List.mem_append_left _ w)
       · rw [List.mem_singleton] at w
         rw [w]
         exact .inr h4
     · exact .inr fun y hy => List.mem_append_left _ (w y hy)
   · exact .inl (List.mem_append_right _ hv)
theorem nD {n : Nat} {fs : List Int} (nd : fs.Nodup) (ok : ∀ x ∈ fs, Inn n x) : fs.length <= n := by
 have h1 : (fs.map Int.toNat).Nodup := by
  rw [List.nodup_iff_pairwise_ne, List.pairwise_map]
  exact (List.nodup_iff_pairwise_ne.mp nd).imp_of_mem fun ha hb hne e => hne (by have := ok _ ha; have := ok _ hb; omega)
 have h2 := List.Nodup.length_le_of_subset h1 (l₂ := List.range n) fun x hx => by
  obtain ⟨y, hy, rfl⟩ := List.mem_map.mp hx
  have := ok y hy
  exact List.mem_range.mpr (by omega)
 rwa [List.length_map, List.length_range] at h2
def comp (n : Nat) (us : List Tie) (p : Int) : List Int := (zs n).filter fun q => at0 (cF n us) q == at0 (cF n us) p
theorem zs_mem {n : Nat} {q : Int} : q ∈ zs n ↔ Inn n q := by
 unfold zs
 rw [List.mem_map]
 constructor
 · rintro ⟨k, hk, rfl⟩
   have := List.mem_range.mp hk
   exact ⟨Int.natCast_nonneg k, by show ((k : Nat) : Int) < n; omega⟩
 · intro h
   exact ⟨q.toNat, List.mem_range.mpr (by omega), by show ((q.toNat : Nat) : Int) = q; omega⟩
theorem PL (n : Nat) : (zs n).Pairwise (· < ·) := by
 unfold zs
 rw [List.pairwise_map]
 exact List.pairwise_lt_range.imp fun h => by show ((_ : Nat) : Int) < ((_ : Nat) : Int); omega
theorem IA {xs ys : List Int} (hx : xs.Nodup) (hy : ys.Nodup) (h : ∀ a, a ∈ xs ↔ a ∈ ys) : xs.Perm ys := (List.perm_ext_iff_of_nodup hx hy).mpr h
theorem Srch.done {n : Nat} {us ts : List Tie} {p : Int} {fs : List Int} (ok : ∀ t ∈ us, Inn n t.i /\ Inn n t.j) (sub : ∀ t, t ∈ ts ↔ t ∈ us /\ t.a > 0) (hp : Inn n p)
 (h : Srch n (iC n ts) (fun q => at0 (cF n us) q = at0 (cF n us) p) p fs []) : sW fs = comp n us p := by
 have okt : ∀ t ∈ ts, Inn n t.i /\ Inn n t.j := fun t ht => ok t ((sub t).mp ht).1
 have cl : ∀ u ∈ fs, ∀ v ∈ (iC n ts).getD u.toNat [], v ∈ fs := fun u hu v hv => by
  rcases h.cl u hu with w | w
  · cases w
  · exact w v hv
 have S : ∀ t ∈ us, t.a > 0 -> (t.i ∈ fs ↔ t.j ∈ fs) := fun t ht ha => by
  have ht' := (sub t).mpr ⟨ht, ha⟩
  exact ⟨fun hi => cl t.i hi t.j ((pL okt (ok t ht).1).mpr ⟨t, ht', .inl ⟨rfl, rfl⟩⟩), fun hj => cl t.j hj t.i ((pL okt (ok t ht).2).mpr ⟨t, ht', .inr ⟨rfl, rfl⟩⟩)⟩
 have nc : (comp n us p).Pairwise (· < ·) := (PL n).filter _
 refine mY (lZ fs) (nc.imp fun h => Int.le_of_lt h) ((oY fs).trans (IA h.nd (List.nodup_iff_pairwise_ne.mpr (nc.imp fun h => Int.ne_of_lt h)) fun a => ?_))
 unfold comp
 rw [List.mem_filter, zs_mem, beq_iff_eq]
 exact ⟨fun ha => h.ok a ha, fun ha => (vW (S := (· ∈ fs)) ok S ha.1 hp ha.2).mpr h.has⟩
def gQ (l : List Int) : Cell := .lst (l.map fun i => I i)
abbrev StA (M : Sto) (A : List (List Int)) (c : Cell) : Sto := M ++ (A.map gQ ++ [c])
theorem yU {M : Sto} {A : List (List Int)} {c : Cell} {k : Nat} (h : k < A.length) : (StA M A c)[M.length + k]? = some (gQ (A.getD k [])) := by
 unfold StA
 rw [List.getElem?_append_right (Nat.le_add_right ..), Nat.add_sub_cancel_left, List.getElem?_append_left (by rw [List.length_map]; exact h), List.getElem?_map, List.getD_eq_getElem?_getD, List.getElem?_eq_getElem h]
 rfl
theorem AK {M : Sto} {A : List (List Int)} {c : Cell} : (StA M A c)[M.length + A.length]? = some c := by
 unfold StA
 rw [List.getElem?_append_right (Nat.le_add_right ..), Nat.add_sub_cancel_left, List.getElem?_append_right (by rw [List.length_map]; exact Nat.le_refl _), List.length_map, Nat.sub_self]
 rfl
theorem NO {M : Sto} {A : List (List Int)} {c : Cell} {k : Nat} {l : List Int} (h : k < A.length) : (StA M A c).set (M.length + k) (gQ l) = StA M (A.set k l) c := by
 unfold StA
 rw [List.set_append_right _ _ (Nat.le_add_right ..), Nat.add_sub_cancel_left, List.set_append_left _ _ (by rw [List.length_map]; exact h), List.map_set]
def aY (b n : Nat) : List CD := (List.range n).map fun k => .c (b + k)
theorem wC {b n : Nat} {p : Int} (h : Inn n p) : atI (aY b n) p = some (.c (b + p.toNat)) := by
 have : p.toNat < n := by omega
 have e : p = ((p.toNat : Nat) : Int) := by omega
 rw [e]
 refine AL ?_
 rw [Int.toNat_natCast]
 unfold aY
 rw [List.getElem?_map, List.getElem?_range this]
 rfl
theorem vG {M : Sto} {A : List (List Int)} {n : Nat} {p : Int} (hA : A.length = n) (h : Inn n p) : ixF (.c (M.length + n)) (I p) (StA M A (.lst (aY M.length n))) = some (.c (M.length + p.toNat), StA M A (.lst (aY M.length n))) := by
 have e := AK (M := M) (A := A) (c := .lst (aY M.length n))
 rw [hA] at e
 simp only [ixF, e, wC h, Option.bind_some]
theorem BC {M : Sto} {A : List (List Int)} {c : Cell} {n : Nat} {p q : Int} (hA : A.length = n) (h : Inn n p) (hl : (A.getD p.toNat []).length < 1000) : bW (.c (M.length + p.toNat)) [I q] (StA M A c) = some (.d .none, StA M (qZ A p q) c) := by
 have hp : p.toNat < A.length := by omega
 have e := yU (M := M) (c := c) hp
 have l : ((A.getD p.toNat []).map fun i => I i).length < sizeLine := by rw [List.length_map, sizeLine_eq]; exact Nat.lt_of_lt_of_le hl (by decide)
 have s := NO (M := M) (c := c) (l := A.getD p.toNat [] ++ [q]) hp
 unfold gQ at e s
 rw [List.map_append, List.map_singleton] at s
 simp only [bW, e, if_pos l, s]
 rfl
theorem GK {M : Sto} {A : List (List Int)} {c : Cell} {n : Nat} {p : Int} (hA : A.length = n) (h : Inn n p) : tyB "list" (StA M A c) (.c (M.length + p.toNat)) = true := by
 have e := yU (M := M) (c := c) (show p.toNat < A.length by omega)
 unfold gQ at e
 simp only [tyB, e]
 decide
theorem rY : ∀ (n : Nat) (xs : List CD) (g : Option CD) (M : Sto), xs.length = n -> lcF (hName 0) fS (mC aI) xs [g] M = some (aY M.length n, M ++ (List.replicate n ([] : List Int)).map gQ)
 | 0, [], g, M, _ => by simp [lcF, aY]
 | n + 1, x :: xs, g, M, h => by
  have ih := rY n xs (some x) (M ++ [.lst []]) (by simpa using h)
  simp only [lcF, hName, fS, mC, aI, Option.bind_some, if_true, List.length_nil, Nat.zero_le, List.set_cons_zero, ih, List.length_append, List.length_singleton]
  refine congrArg some (Prod.ext ?_ ?_)
  · unfold aY
    rw [List.range_succ_eq_map, List.map_cons, List.map_map]
    refine congrArg (List.cons _) (List.map_congr_left fun k _ => ?_)
    exact congrArg CD.c (by show M.length + 1 + k = M.length + (k + 1); omega)
  · rw [List.append_assoc, List.replicate_succ, List.map_cons]
    rfl
theorem tG (lo : Int) (n : Nat) : (cS lo n).length = n := by simp [cS]
def prP (t : Tie) : PyData := .tuple [.int t.i, .int t.j]
theorem lJ {A : List (List Int)} {p q : Int} {k : Nat} (h : ∀ r, (A.getD r []).length <= k) : ∀ r, ((qZ A p q).getD r []).length <= k + 1 := by
 intro r
 unfold qZ
 rw [List.getD_eq_getElem?_getD, List.getElem?_set]
 split
 · split
   · rw [Option.getD_some, List.length_append, List.length_singleton]; exact Nat.add_le_add_right (h _) 1
   · exact Nat.zero_le _
 · rw [<- List.getD_eq_getElem?_getD]; exact Nat.le_succ_of_le (h r)
theorem wI {M : Sto} {A : List (List Int)} {n : Nat} {t : Tie} {x0 x1 : CD} (hA : A.length = n) (hi : Inn n t.i) (hj : Inn n t.j) {k : Nat} (hk : ∀ r, (A.getD r []).length <= k) (k1 : k < 500) :
 bX [some x0, some x1, some (.c (M.length + n)), some (I t.i), some (I t.j)] (StA M A (.lst (aY M.length n))) = some (.nx [some x0, some x1, some (.c (M.length + n)), some (I t.i), some (I t.j)], StA M (oG A t) (.lst (aY M.length n))) := by
 have hA' : (qZ A t.i t.j).length = n := by rw [oV, hA]
 have a1 := BC (M := M) (c := .lst (aY M.length n)) (q := t.j) hA hi (by have := hk t.i.toNat; omega)
 have a2 := BC (M := M) (c := .lst (aY M.length n)) (q := t.i) hA' hj (by have := lJ (p := t.i) (q := t.j) hk t.j.toNat; omega)
 simp! [bX, cX, vG hA hi, GK hA hi, a1, vG hA' hj, GK hA' hj, a2]
 rfl
theorem nL {M : Sto} {n : Nat} {x0 x1 : CD} : ∀ (ts : List Tie) (A : List (List Int)) (k : Nat) (g3 g4 : Option CD), A.length = n -> (∀ t ∈ ts, Inn n t.i /\ Inn n t.j) -> (∀ r, (A.getD r []).length <= k) -> k + 2 * ts.length < 500 ->
 ∃ g3' g4', eE (gO 2 (aX (hName 3) (aX (hName 4) gM))) bX ((ts.map prP).map .d) [some x0, some x1, some (.c (M.length + n)), g3, g4] (StA M A (.lst (aY M.length n))) = some (.nx [some x0, some x1, some (.c (M.length + n)), g3', g4'], StA M (ts.foldl oG A) (.lst (aY M.length n)))
 | [], A, k, g3, g4, _, _, _, _ => ⟨g3, g4, rfl⟩
 | t :: ts, A, k, g3, g4, hA, ok, hk, hl => by
  obtain ⟨hi, hj⟩ := ok t (List.mem_cons_self ..)
  rw [List.length_cons] at hl
  have tn := wI (M := M) (x0 := x0) (x1 := x1) hA hi hj hk (by omega)
  obtain ⟨a, b, h⟩ := nL (M := M) (x0 := x0) (x1 := x1) ts (oG A t) (k + 2) (some (I t.i)) (some (I t.j)) (by rw [pS, hA]) (fun s hs => ok s (List.mem_cons_of_mem _ hs)) (fun r => lJ (lJ hk) r) (by omega)
  refine ⟨a, b, ?_⟩
  rw [List.foldl_cons, <- h]
  show eE _ bX (.d (.tuple [.int t.i, .int t.j]) :: (ts.map prP).map .d) _ _ = _
  conv => lhs; unfold eE
  simp! [tn]
theorem iY {J : Int} (h0 : 0 <= J) (h1 : J <= 40) : bO J = true := by
 simp only [bO, Bool.and_eq_true, decide_eq_true_eq]
 omega
theorem LU {cap : List (Option Nat)} {f : AF} {g : GF} {c : TF} {ee : EF} {γ : Ga} {M M1 M2 : Sto} {xs ys : List CD} (it : f γ M = some (xs, M1)) (hl : xs.length <= sizeLine) (lc : lcF g c ee xs (lF cap γ) M1 = some (ys, M2)) (hy : ys.length <= sizeLine) : JP cap f g c ee γ M = some (.c M2.length, M2 ++ [.lst ys]) := by
 unfold JP mC nR
 rw [it, Option.bind_some]
 dsimp only
 rw [if_pos hl, lc, Option.bind_some]
 dsimp only
 rw [if_pos hy]
theorem WB {J : Int} {γ : Ga} {M : Sto} (sm : bO J = true) : cZ (aC (aD 0) aI) (some (I J) :: γ) M = some (cS 0 J.toNat, M) := by
 simp! [cZ, sm]
theorem oN {n : Nat} {γ : Ga} {M : Sto} (sm : bO (n : Int) = true) : cZ (aC (aD 0) aI) (some (I n) :: γ) M = some (cS 0 n, M) := by
 have h := WB (γ := γ) (M := M) sm
 rw [Int.toNat_natCast] at h
 exact h
theorem HY {n : Nat} {ts : List Tie} {M : Sto} (n40 : n <= 40) (ok : ∀ t ∈ ts, Inn n t.i /\ Inn n t.j) (hl : ts.length < 64) :
 cH [I n, .d (.list (ts.map prP))] M = some (.c (M.length + n), StA M (iC n ts) (.lst (aY M.length n))) := by
 have sm : bO (n : Int) = true := iY (by omega) (by omega)
 have rl : (cS 0 n).length <= sizeLine := by rw [tG]; exact sz (by omega)
 have cl : (aY M.length n).length <= sizeLine := by unfold aY; rw [List.length_map, List.length_range]; exact sz (by omega)
 have nc := rY n (cS 0 n) none M (tG 0 n)
 have r0 : cZ (aC (aD 0) aI) [some (I n), some (.d (.list (ts.map prP))), none, none, none] M = some (cS 0 n, M) := oN sm
 have c0 : eD [some (I n), some (.d (.list (ts.map prP))), none, none, none] M = some (.c (M.length + n), StA M (List.replicate n []) (.lst (aY M.length n))) := by
  unfold eD
  rw [LU r0 rl nc cl, List.append_assoc]
  refine congrArg some (Prod.ext (congrArg CD.c ?_) rfl)
  show (M ++ (List.replicate n ([] : List Int)).map gQ).length = M.length + n
  rw [List.length_append, List.length_map, List.length_replicate]
 obtain ⟨g3, g4, lp⟩ := nL (M := M) (n := n) (x0 := I n) (x1 := .d (.list (ts.map prP))) ts (List.replicate n []) 0 none none (by simp) ok (fun r => by rw [List.getD_eq_getElem?_getD, List.getElem?_replicate]; split <;> simp) (by omega)
 have it : bZ (aD 1) [some (I n), some (.d (.list (ts.map prP))), some (.c (M.length + n)), none, none] (StA M (List.replicate n []) (.lst (aY M.length n))) = some ((ts.map prP).map .d, StA M (List.replicate n []) (.lst (aY M.length n))) := rfl
 simp! [cH, eT, c0, kH, it, lp, iC]
theorem jH (lo : Int) (m : Nat) : cS lo (m + 1) = I lo :: cS (lo + 1) m := by
 unfold cS
 rw [List.range_succ_eq_map, List.map_cons, List.map_map]
 congr 1
 · show CD.d (.int (lo + ((0 : Nat) : Int))) = _
   rw [show lo + ((0 : Nat) : Int) = lo by omega]
 · refine List.map_congr_left fun i _ => ?_
   show CD.d (.int (lo + ((i + 1 : Nat) : Int))) = .d (.int (lo + 1 + (i : Nat)))
   rw [show lo + ((i + 1 : Nat) : Int) = lo + 1 + (i : Nat) by omega]
theorem slL (xs : List PyData) (lo hi : Option Int) (M : Sto) : slF (.d (.list xs)) lo hi M = some (.d (.list (lM xs lo hi)), M) := rfl
theorem xW {xs ys : List PyData} {M : Sto} (hl : (xs ++ ys).length <= sizeLine) : gS (.d (.list xs)) (.d (.list ys)) M = some (.d (.list (xs ++ ys)), M) := by
 have a : SD (.d (.list xs)) (.d (.list ys)) M = none := rfl
 have c : NW (.d (.list xs)) (.d (.list ys)) M = some (.d (.list (xs ++ ys)), M) := by
  unfold NW
  simp only [qQ, Option.bind_some]
  rw [<- List.map_append, jF, Option.bind_some, if_pos hl]
 unfold gS xH
 rw [a]
 dsimp only
 rw [c]
theorem TZ {xs : List PyData} {r : Nat} (h : r <= xs.length) : lM xs none (some (r : Int)) = xs.take r := by
 unfold lM
 rw [HT.sIx_none, HT.sIx_nat, List.drop_zero, Nat.sub_zero, Nat.min_eq_left h]
theorem IZ {xs : List PyData} {r : Nat} (h : r <= xs.length) : lM xs (some (r : Int)) none = xs.drop r := by
 unfold lM
 rw [HT.sIx_none, HT.sIx_nat, Nat.min_eq_left h, List.take_of_length_le]
 rw [List.length_drop]
 exact Nat.le_refl _
theorem fI (us : List Tie) : (aN us).length = us.length := by unfold aN; rw [List.length_map]
theorem ID {M : Sto} {s : Nat} {n c j i : Int} {us : List Tie} {g6 : Option CD} (h : Stm M s) (h64 : us.length < 64) :
 ∃ us' g M', cJ [some (.c s), some (I n), some (I c), some (.d (.list (aN us))), some (I j), some (I i), g6] M = some (.nx [some (.c s), some (I n), some (I c), some (.d (.list (aN us'))), some (I j), some (I i), g], M') /\ Stm M' s /\ (us' = us \/ ∃ a b, fT a b = true /\ us'.Perm (⟨i, j, a, b⟩ :: us)) := by
 obtain ⟨r, M1, e1, r0, r1, n1⟩ := fQ (m := 4) h (by decide) (by decide)
 have h1 := n1.stm h
 by_cases q : r < c
 · have ln : oI [.d (.list (aN us))] M1 = some (I us.length, M1) := by
    unfold oI
    dsimp only
    rw [show bI (.list (aN us)) = some (aN us) from rfl, Option.bind_some, fI]
   obtain ⟨k, M2, e2, k0, k1, n2⟩ := fQ (m := (us.length : Int) + 1) h1 (by omega) (by
    have : (2 : Int) ^ 200 = 1606938044258990275541962092341162602522202993782792835301376 := by decide
    omega)
   have h2 := n2.stm h1
   obtain ⟨a, b, M3, e3, w3, n3⟩ := JF h2
   have h3 := n3.stm h2
   obtain ⟨k, rfl⟩ : ∃ z : Nat, k = (z : Int) := ⟨k.toNat, by omega⟩
   have kl : k <= (aN us).length := by rw [fI]; omega
   have rr : aN us = (aN us).take k ++ (aN us).drop k := (List.take_append_drop ..).symm
   have c1 := TZ kl
   have c2 := IZ kl
   have z1 : (1 : Nat) <= sizeLine := sz (by decide)
   have z2 : (2 : Nat) <= sizeLine := sz (by decide)
   have z3 : (3 : Nat) <= sizeLine := sz (by decide)
   have lt : ((aN us).take k).length <= us.length := by rw [List.length_take, fI]; omega
   have ld : ((aN us).drop k).length <= us.length := by rw [List.length_drop, fI]; omega
   have a1 : gS (.d (.list ((aN us).take k))) (.d (.list [.tuple [.int i, .int j, .tuple [.int a, .int b]]])) M3 = some (.d (.list ((aN us).take k ++ [.tuple [.int i, .int j, .tuple [.int a, .int b]]])), M3) := xW (sz (by rw [List.length_append, List.length_cons, List.length_nil]; omega))
   have a2 : gS (.d (.list ((aN us).take k ++ [.tuple [.int i, .int j, .tuple [.int a, .int b]]]))) (.d (.list ((aN us).drop k))) M3 = some (.d (.list ((aN us).take k ++ [.tuple [.int i, .int j, .tuple [.int a, .int b]]] ++ (aN us).drop k)), M3) := xW (sz (by rw [List.length_append, List.length_append, List.length_cons, List.length_nil]; omega))
   have er : (aN us).take k ++ [.tuple [.int i, .int j, .tuple [.int a, .int b]]] ++ (aN us).drop k = aN (us.take k ++ [⟨i, j, a, b⟩] ++ us.drop k) := by
    unfold aN
    rw [List.map_append, List.map_append, List.map_take, List.map_drop]
    rfl
   have e3 : cB [.c s] M2 = some (.d (.tuple [.int a, .int b]), M3) := e3
   refine ⟨us.take k ++ [⟨i, j, a, b⟩] ++ us.drop k, some (I k), M3, ?_, h3, .inr ⟨a, b, w3, ?_⟩⟩
   · rw [<- er]
     simp! [cJ, fSl, mD, vN, e1, decide_eq_true q, ln, nO, e2, slL, YB, c1, c2, e3, z1, z2, z3, a1, a2]
   · rw [List.append_assoc]
     have p := List.perm_middle (a := (⟨i, j, a, b⟩ : Tie)) (l₁ := us.take k) (l₂ := us.drop k)
     rw [List.take_append_drop] at p
     exact p
 · refine ⟨us, g6, M1, ?_, h1, .inl rfl⟩
   simp! [cJ, e1, decide_eq_false q]
structure Dr (n J K : Int) (us : List Tie) : Prop where
 ok : ∀ t ∈ us, (fT t.a t.b = true /\ 0 <= t.i /\ t.i < t.j /\ t.j < n) /\ (t.j < J \/ (t.j = J /\ t.i < K))
 nd : (us.map Tie.key).Nodup
theorem Dr.more {n J K a b : Int} {us us' : List Tie} (d : Dr n J K us) (k0 : 0 <= K) (kj : K < J) (jn : J < n) (h : us' = us \/ ∃ a b, fT a b = true /\ us'.Perm (⟨K, J, a, b⟩ :: us)) : Dr n J (K + 1) us' /\ us'.length <= us.length + 1 := by
 rcases h with rfl | ⟨a, b, w, p⟩
 · exact ⟨⟨fun t ht => ⟨(d.ok t ht).1, by have := (d.ok t ht).2; omega⟩, d.nd⟩, by omega⟩
 · refine ⟨⟨fun t ht => ?_, ?_⟩, by rw [p.length_eq, List.length_cons]; exact Nat.le_refl _⟩
   · rcases List.mem_cons.mp (p.subset ht) with rfl | ht
     · exact ⟨⟨w, k0, kj, jn⟩, .inr ⟨rfl, by show K < K + 1; omega⟩⟩
     · exact ⟨(d.ok t ht).1, by have := (d.ok t ht).2; omega⟩
   · rw [(p.map Tie.key).nodup_iff, List.map_cons, List.nodup_cons]
     refine ⟨fun z => ?_, d.nd⟩
     obtain ⟨t, ht, e⟩ := List.mem_map.mp z
     have e : ([.inl t.i, .inl t.j] : List Key) = [.inl K, .inl J] := e
     injection e with e1 e2
     injection e2 with e2 _
     injection e1 with e1
     injection e2 with e2
     have := (d.ok t ht).2
     omega
theorem inner {s : Nat} {n c j : Int} (jn : j < n) : ∀ (m : Nat) (i : Int) (us : List Tie) (g5 g6 : Option CD) (M : Sto), 0 <= i -> i + m = j -> Stm M s -> Dr n j i us -> us.length + m < 64 ->
 ∃ us' g g' M', eE (hName 5) cJ (cS i m) [some (.c s), some (I n), some (I c), some (.d (.list (aN us))), some (I j), g5, g6] M = some (.nx [some (.c s), some (I n), some (I c), some (.d (.list (aN us'))), some (I j), g, g'], M') /\ Stm M' s /\ Dr n j j us' /\ us'.length <= us.length + m
 | 0, i, us, g5, g6, M, i0, hi, h, d, _ => ⟨us, g5, g6, M, rfl, h, by rwa [show i = j by omega] at d, Nat.le_refl _⟩
 | m + 1, i, us, g5, g6, M, i0, hi, h, d, hl => by
  obtain ⟨us1, g, M1, e1, h1, q⟩ := ID (n := n) (c := c) (j := j) (i := i) (g6 := g6) h (us := us) (by omega)
  obtain ⟨d1, l1⟩ := d.more (a := 0) (b := 0) i0 (by omega) jn q
  obtain ⟨us2, g2, g3, M2, e2, h2, d2, l2⟩ := inner jn m (i + 1) us1 (some (I i)) g M1 (by omega) (by omega) h1 d1 (by omega)
  refine ⟨us2, g2, g3, M2, ?_, h2, d2, by omega⟩
  rw [jH]
  unfold eE
  simp only [hName, List.set_cons_zero, List.set_cons_succ, List.length_cons, Option.bind_some, e1]
  exact e2
def tri : Nat -> Nat
 | 0 => 0
 | k + 1 => tri k + k
theorem MY {J : Int} {x0 x1 x2 x3 : CD} {g5 g6 : Option CD} {γ' : Ga} {M M' : Sto} (h0 : 0 <= J) (h1 : J <= 40) (e : eE (hName 5) cJ (cS 0 J.toNat) [some x0, some x1, some x2, some x3, some (I J), g5, g6] M = some (.nx γ', M')) : cK [some x0, some x1, some x2, some x3, some (I J), g5, g6] M = some (.nx γ', M') := by
 have sm := iY h0 h1
 simp! [cK, kH, cZ, sm, e]
theorem FW (k : Nat) : tri (k + 1) = tri k + k := rfl
theorem aAc {j : Nat} (h : j <= 8) : tri j <= 28 := by
 have : j = 0 \/ j = 1 \/ j = 2 \/ j = 3 \/ j = 4 \/ j = 5 \/ j = 6 \/ j = 7 \/ j = 8 := by omega
 rcases this with rfl | rfl | rfl | rfl | rfl | rfl | rfl | rfl | rfl <;> decide
theorem IT {s : Nat} {n c : Int} (n9 : n <= 9) {j : Nat} {us : List Tie} {g4 g5 g6 : Option CD} {M : Sto} (hj : (j : Int) < n) (h : Stm M s) (d : Dr n j 0 us) (l : us.length <= tri j) :
 ∃ us' g' g'' M', cK [some (.c s), some (I n), some (I c), some (.d (.list (aN us))), some (I j), g5, g6] M = some (.nx [some (.c s), some (I n), some (I c), some (.d (.list (aN us'))), some (I j), g', g''], M') /\ Stm M' s /\ Dr n ((j + 1 : Nat) : Int) 0 us' /\ us'.length <= tri (j + 1) := by
 have t8 := aAc (j := j) (by omega)
 obtain ⟨us1, g, g', M1, e1, h1, d1, l1⟩ := inner (s := s) (n := n) (c := c) (j := (j : Int)) hj j 0 us g5 g6 M (by omega) (by omega) h d (by omega)
 have d2 : Dr n ((j + 1 : Nat) : Int) 0 us1 := ⟨fun t ht => ⟨(d1.ok t ht).1, by have := (d1.ok t ht).2; omega⟩, d1.nd⟩
 refine ⟨us1, g, g', M1, ?_, h1, d2, by rw [FW]; omega⟩
 exact MY (by omega) (by omega) (by rw [Int.toNat_natCast]; exact e1)
theorem outer {s : Nat} {n c : Int} (n9 : n <= 9) (m : Nat) : ∀ (j : Nat) (us : List Tie) (g4 g5 g6 : Option CD) (M : Sto), ((j + m : Nat) : Int) = n -> Stm M s -> Dr n j 0 us -> us.length <= tri j ->
 ∃ us' g g' g'' M', eE (hName 4) cK (cS j m) [some (.c s), some (I n), some (I c), some (.d (.list (aN us))), g4, g5, g6] M = some (.nx [some (.c s), some (I n), some (I c), some (.d (.list (aN us'))), g, g', g''], M') /\ Stm M' s /\ Dr n n 0 us' /\ us'.length <= tri (j + m) := by
 induction m with
 | zero => intro j us g4 g5 g6 M hj h d l; exact ⟨us, g4, g5, g6, M, rfl, h, by rwa [show ((j : Nat) : Int) = n by omega] at d, l⟩
 | succ m ih =>
  intro j us g4 g5 g6 M hj h d l
  obtain ⟨us1, g, g', M1, e1, h1, d1, l1⟩ := IT (c := c) (g4 := g4) (g5 := g5) (g6 := g6) n9 (j := j) (us := us) (M := M) (by omega) h d l
  obtain ⟨us2, q1, q2, q3, M2, e2, h2, d2, l2⟩ := ih (j + 1) us1 (some (I j)) g g' M1 (by omega) h1 d1 l1
  refine ⟨us2, q1, q2, q3, M2, ?_, h2, d2, by rwa [show j + (m + 1) = j + 1 + m by omega]⟩
  rw [jH, show ((j : Nat) : Int) + 1 = ((j + 1 : Nat) : Int) by omega]
  unfold eE
  rw [show hName 4 (I j) [some (.c s), some (I n), some (I c), some (.d (.list (aN us))), g4, g5, g6] M = some ([some (.c s), some (I n), some (I c), some (.d (.list (aN us))), some (I j), g5, g6], M) from rfl, Option.bind_some, e1, Option.bind_some]
  exact e2
theorem RQ {M : Sto} {s : Nat} {n : Int} (h : Stm M s) (n1 : 1 <= n) (n9 : n <= 9) : ∃ us M', eO [.c s, I n] M = some (.d (.list (aN us)), M') /\ Stm M' s /\ Ok n us /\ us.length <= 36 := by
 obtain ⟨c, M1, e1, c0, c1, m1⟩ := fQ (m := 4) h (by decide) (by decide)
 obtain ⟨us, g, g', g'', M2, e2, h2, d2, l2⟩ := outer (s := s) (n := n) (c := c) n9 n.toNat 0 [] none none none M1 (by omega) (m1.stm h) ⟨fun t ht => (by cases ht), List.nodup_nil⟩ (Nat.le_refl _)
 have e2 : eE (hName 4) cK (cS 0 n.toNat) [some (.c s), some (I n), some (I c), some (.d (.list [])), none, none, none] M1 = _ := e2
 have t9 : tri (0 + n.toNat) <= 36 := by
  obtain ⟨k, hk⟩ : ∃ k, n.toNat = k := ⟨_, rfl⟩
  rw [hk]
  have : k = 0 \/ k = 1 \/ k = 2 \/ k = 3 \/ k = 4 \/ k = 5 \/ k = 6 \/ k = 7 \/ k = 8 \/ k = 9 := by omega
  rcases this with rfl | rfl | rfl | rfl | rfl | rfl | rfl | rfl | rfl | rfl <;> decide
 refine ⟨us, M2, ?_, h2, ⟨fun t ht => (d2.ok t ht).1, d2.nd, by omega⟩, by omega⟩
 have sm : bO n = true := by
  simp only [bO, Bool.and_eq_true, decide_eq_true_eq]
  omega
 have z0 : (0 : Nat) <= sizeLine := Nat.zero_le _
 simp! [eO, jP, kH, cZ, e1, z0, sm, e2]
abbrev T1 : CD := .d (.bool true)
def kvs (fs : List Int) : List (Key × CD) := fs.map fun x => ((.inl x : Key), T1)
theorem FT (fs : List Int) (x : Int) : (lkC (kvs fs) (.inl x : Key)).isSome = decide (x ∈ fs) := by
 unfold lkC kvs
 rw [Option.isSome_map]
 induction fs with
 | nil => rfl
 | cons y fs ih =>
  rw [List.map_cons, List.find?_cons]
  by_cases h : y = x
  · subst h
    simp
  · have h1 : ¬ ((Sum.inl y : Key) = Sum.inl x) := fun e => h (Sum.inl.inj e)
    rw [decide_eq_false h1]
    dsimp only
    rw [ih]
    have : (x ∈ y :: fs) ↔ x ∈ fs := by rw [List.mem_cons]; exact ⟨fun q => q.resolve_left (fun e => h e.symm), .inr⟩
    exact decide_eq_decide.mpr this.symm
theorem tS {fs : List Int} {x : Int} (h : x ∉ fs) : putD (kvs fs) (.inl x : Key) T1 = kvs (fs ++ [x]) := by
 unfold putD
 have : ((kvs fs).any fun kv => decide (kv.1 = (Sum.inl x : Key))) = false := by
  rw [List.any_eq_false]
  intro kv hkv
  obtain ⟨y, hy, rfl⟩ := List.mem_map.mp hkv
  rw [decide_eq_true_eq]
  exact fun e => h (Sum.inl.inj e ▸ hy)
 rw [this, if_neg (by decide)]
 unfold kvs
 rw [List.map_append, List.map_singleton]
theorem wL {fs : List Int} {x : Int} (h : x ∈ fs) : putD (kvs fs) (.inl x : Key) T1 = kvs fs := by
 unfold putD
 have : ((kvs fs).any fun kv => decide (kv.1 = (Sum.inl x : Key))) = true := by
  rw [List.any_eq_true]
  exact ⟨((.inl x : Key), T1), List.mem_map.mpr ⟨x, h, rfl⟩, decide_eq_true rfl⟩
 rw [this, if_pos rfl]
 unfold kvs
 rw [List.map_map]
 refine List.map_congr_left fun y _ => ?_
 show (if (Sum.inl y : Key) = Sum.inl x then ((Sum.inl y : Key), T1) else ((Sum.inl y : Key), T1)) = _
 split <;> rfl
abbrev Sts (N : Sto) (fs ws : List Int) : Sto := N ++ [.dk (kvs fs), gQ ws]
theorem EG {N : Sto} {fs ws : List Int} : (Sts N fs ws)[N.length]? = some (.dk (kvs fs)) := by
 unfold Sts; rw [List.getElem?_append_right (Nat.le_refl _), Nat.sub_self]; rfl
theorem zO {N : Sto} {fs ws : List Int} : (Sts N fs ws)[N.length + 1]? = some (gQ ws) := by
 unfold Sts; rw [List.getElem?_append_right (Nat.le_add_right ..), Nat.add_sub_cancel_left]; rfl
theorem HU {N : Sto} {fs fs' ws : List Int} : (Sts N fs ws).set N.length (.dk (kvs fs')) = Sts N fs' ws := by
 unfold Sts; rw [List.set_append_right _ _ (Nat.le_refl _), Nat.sub_self]; rfl
theorem vC {N : Sto} {fs ws ws' : List Int} : (Sts N fs ws).set (N.length + 1) (gQ ws') = Sts N fs ws' := by
 unfold Sts; rw [List.set_append_right _ _ (Nat.le_add_right ..), Nat.add_sub_cancel_left]; rfl
theorem yR {N : Sto} {fs ws : List Int} {k : Nat} {c : Cell} (h : N[k]? = some c) : (Sts N fs ws)[k]? = some c := by
 unfold Sts; rw [List.getElem?_append_left (List.getElem?_eq_some_iff.mp h).1]; exact h
abbrev GR (b p : CD) (D : Nat) (g4 g5 : Option CD) : Ga := [some b, some p, some (.c D), some (.c (D + 1)), g4, g5]
theorem IH {N : Sto} {fs ws : List Int} {x : Int} {b p : CD} {g4 : Option CD} (hf : fs.length < 1000) (hw : ws.length < 1000) :
 bK (GR b p N.length g4 (some (I x))) (Sts N fs ws) = some (.nx (GR b p N.length g4 (some (I x))), Sts N (see (fs, ws) x).1 (see (fs, ws) x).2) := by
 have l1 : (kvs fs).length < sizeLine := by unfold kvs; rw [List.length_map, sizeLine_eq]; omega
 have l2 : (ws.map fun i => I i).length < sizeLine := by rw [List.length_map, sizeLine_eq]; omega
 have a1 : atD (Sts N fs ws) (.c N.length) (.inl (.inl x)) = some (lkC (kvs fs) (.inl x : Key)) := by simp only [atD, EG]
 have k1 : keyOf (I x) = some (.inl x) := rfl
 have lk := FT fs x
 by_cases h : x ∈ fs
 · rw [decide_eq_true h] at lk
   have e : see (fs, ws) x = (fs, ws) := by unfold see; rw [if_pos h]
   rw [e]
   simp! [bK, oK, mN, k1, a1, lk]
 · rw [decide_eq_false h] at lk
   have e : see (fs, ws) x = (fs ++ [x], ws ++ [x]) := by unfold see; rw [if_neg h]
   rw [e]
   have s1 : oF (Sts N fs ws) (.c N.length) (.inl (.inl x)) (.d (.bool true)) = some (Sts N (fs ++ [x]) ws) := by
    simp only [oF, EG, if_pos l1, tS h, HU]
   have t1 : tyB "list" (Sts N (fs ++ [x]) ws) (.c (N.length + 1)) = true := by
    have := zO (N := N) (fs := fs ++ [x]) (ws := ws)
    unfold gQ at this
    simp only [tyB, this]
    decide
   have p1 : bW (.c (N.length + 1)) [I x] (Sts N (fs ++ [x]) ws) = some (.d .none, Sts N (fs ++ [x]) (ws ++ [x])) := by
    have w := zO (N := N) (fs := fs ++ [x]) (ws := ws)
    have s := vC (N := N) (fs := fs ++ [x]) (ws := ws) (ws' := ws ++ [x])
    unfold gQ at w s
    rw [List.map_append, List.map_singleton] at s
    simp only [bW, w, if_pos l2]
    exact congrArg (fun y => some (CD.d .none, y)) s
   simp! [bK, oK, mN, k1, a1, lk, mG, s1, cX, t1, p1]
theorem OQ (s : List Int × List Int) (x : Int) : (see s x).1.length <= s.1.length + 1 /\ (see s x).2.length <= s.2.length + 1 := by
 unfold see; split
 · exact ⟨Nat.le_succ _, Nat.le_succ _⟩
 · simp
theorem vD {N : Sto} {P : Sto -> Prop} {b p : CD} {g4 : Option CD} (hP : ∀ fs ws, P (Sts N fs ws)) : ∀ (xs fs ws : List Int) (g5 : Option CD), fs.length + xs.length < 1000 -> ws.length + xs.length < 1000 ->
 ∃ g5', oC P (hName 5) bK (xs.map fun i => I i) (GR b p N.length g4 g5) (Sts N fs ws) = some (.nx (GR b p N.length g4 g5'), Sts N (xs.foldl see (fs, ws)).1 (xs.foldl see (fs, ws)).2)
 | [], fs, ws, g5, _, _ => ⟨g5, by unfold oC; rw [List.map_nil]; exact if_pos (hP fs ws)⟩
 | x :: xs, fs, ws, g5, hf, hw => by
  rw [List.length_cons] at hf hw
  have tn := IH (N := N) (fs := fs) (ws := ws) (x := x) (b := b) (p := p) (g4 := g4) (by omega) (by omega)
  obtain ⟨l1, l2⟩ := OQ (fs, ws) x
  dsimp only at l1 l2
  obtain ⟨g5', h⟩ := vD (b := b) (p := p) (g4 := g4) hP xs (see (fs, ws) x).1 (see (fs, ws) x).2 (some (I x)) (by omega) (by omega)
  refine ⟨g5', ?_⟩
  rw [List.foldl_cons, <- h, List.map_cons]
  conv => lhs; unfold oC
  rw [if_pos (hP fs ws)]
  show (hName 5 (I x) (GR b p N.length g4 g5) (Sts N fs ws)).bind _ = _
  rw [show hName 5 (I x) (GR b p N.length g4 g5) (Sts N fs ws) = some (GR b p N.length g4 (some (I x)), Sts N fs ws) from rfl, Option.bind_some]
  dsimp only
  rw [tn, Option.bind_some]
structure HasAdj (N : Sto) (b n : Nat) (A : List (List Int)) : Prop where
 row : N[b + n]? = some (.lst (aY b n))
 at_ : ∀ p : Int, Inn n p -> N[b + p.toNat]? = some (gQ (A.getD p.toNat []))
theorem HasAdj.new {M : Sto} {A : List (List Int)} {n : Nat} (h : A.length = n) : HasAdj (StA M A (.lst (aY M.length n))) M.length n A :=
 ⟨by have := AK (M := M) (A := A) (c := .lst (aY M.length n)); rw [h] at this; exact this, fun p hp => yU (by omega)⟩
theorem HasAdj.app {N L : Sto} {b n : Nat} {A : List (List Int)} (h : HasAdj N b n A) : HasAdj (N ++ L) b n A :=
 ⟨by rw [List.getElem?_append_left (List.getElem?_eq_some_iff.mp h.row).1]; exact h.row, fun p hp => by rw [List.getElem?_append_left (List.getElem?_eq_some_iff.mp (h.at_ p hp)).1]; exact h.at_ p hp⟩
theorem zS {n : Nat} : ∀ (ts : List Tie) (A : List (List Int)) (k : Nat), (∀ r, (A.getD r []).length <= k) -> ∀ r, ((ts.foldl oG A).getD r []).length <= k + 2 * ts.length
 | [], A, k, h, r => by simpa using h r
 | t :: ts, A, k, h, r => by
  rw [List.foldl_cons]
  have := zS (n := n) ts (oG A t) (k + 2) (fun r => lJ (lJ h) r) r
  rw [List.length_cons]
  omega
theorem JR {n : Nat} {ts : List Tie} (hl : ts.length < 64) (r : Nat) : ((iC n ts).getD r []).length < 130 := by
 have := zS (n := n) ts (List.replicate n []) 0 (fun r => by rw [List.getD_eq_getElem?_getD, List.getElem?_replicate]; split <;> simp) r
 unfold iC
 omega
noncomputable abbrev wB : SF := (aZ (bU (cX "list" zF (aD 3) aI) (hName 4)) (sP (kF (fOp ixF (aD 0) (aD 4))) (hName 5) bK))
section
variable {N : Sto} {b n : Nat} {A : List (List Int)} {pp : CD}
theorem KL {fs ws : List Int} {u : Int} {g4 g5 : Option CD} (hN : HasAdj N b n A) (hu : Inn n u) (hA : (A.getD u.toNat []).length < 130) (hf : fs.length <= 100) (hw : ws.length <= 100) :
 ∃ g4' g5', wB (GR (.c (b + n)) pp N.length g4 g5) (Sts N fs (ws ++ [u])) = some (.nx (GR (.c (b + n)) pp N.length g4' g5'), Sts N ((A.getD u.toNat []).foldl see (fs, ws)).1 ((A.getD u.toNat []).foldl see (fs, ws)).2) := by
 have w := zO (N := N) (fs := fs) (ws := ws ++ [u])
 have s := vC (N := N) (fs := fs) (ws := ws ++ [u]) (ws' := ws)
 unfold gQ at w s
 have ty : tyB "list" (Sts N fs (ws ++ [u])) (.c (N.length + 1)) = true := by simp only [tyB, w]; decide
 have po : zF (.c (N.length + 1)) [] (Sts N fs (ws ++ [u])) = some (I u, Sts N fs ws) := by
  have e1 : ((ws ++ [u]).map fun i => I i)[((ws ++ [u]).map fun i => I i).length - 1]? = some (I u) := by
   rw [List.length_map, List.length_append, List.length_singleton, Nat.add_sub_cancel, List.getElem?_map, List.getElem?_append_right (Nat.le_refl _), Nat.sub_self]
   rfl
  have e2 : ((ws ++ [u]).map fun i => I i).dropLast = ws.map fun i => I i := by
   rw [List.map_append, List.map_singleton, List.dropLast_concat]
  simp only [zF, w, e1, e2, Option.bind_some]
  exact congrArg (fun y => some (I u, y)) s
 have ix : ixF (.c (b + n)) (I u) (Sts N fs ws) = some (.c (b + u.toNat), Sts N fs ws) := by
  have := yR (fs := fs) (ws := ws) hN.row
  simp only [ixF, this, wC hu, Option.bind_some]
 have wk : walked (Sts N fs ws) (.c (b + u.toNat)) = some ((A.getD u.toNat []).map fun i => I i, fun M' => M'[b + u.toNat]? = some (gQ (A.getD u.toNat []))) := by
  have := yR (fs := fs) (ws := ws) (hN.at_ u hu)
  unfold gQ at this ⊢
  simp only [walked, this]
 obtain ⟨g5', lp⟩ := vD (N := N) (P := fun M' => M'[b + u.toNat]? = some (gQ (A.getD u.toNat []))) (b := .c (b + n)) (p := pp) (g4 := some (I u)) (fun fs ws => yR (hN.at_ u hu)) (A.getD u.toNat []) fs ws g5 (by omega) (by omega)
 refine ⟨some (I u), g5', ?_⟩
 have sf : sP (kF (fOp ixF (aD 0) (aD 4))) (hName 5) bK (GR (.c (b + n)) pp N.length (some (I u)) g5) (Sts N fs ws) = some (.nx (GR (.c (b + n)) pp N.length (some (I u)) g5'), Sts N ((A.getD u.toNat []).foldl see (fs, ws)).1 ((A.getD u.toNat []).foldl see (fs, ws)).2) := by
  have i1 : fOp ixF (aD 0) (aD 4) (GR (.c (b + n)) pp N.length (some (I u)) g5) (Sts N fs ws) = some (.c (b + u.toNat), Sts N fs ws) := by
   simp! [ix]
  unfold sP kF
  rw [i1, Option.bind_some]
  dsimp only
  rw [wk, Option.bind_some, Option.bind_some]
  exact lp
 unfold wB aZ bU
 simp! [cX, ty, po, sf]
theorem YV {fs ws : List Int} {g4 g5 : Option CD} : rA (aD 3) (GR (.c (b + n)) pp N.length g4 g5) (Sts N fs ws) = some (!ws.isEmpty, Sts N fs ws) := by
 have w := zO (N := N) (fs := fs) (ws := ws)
 unfold gQ at w
 simp! [w]
 rw [List.isEmpty_map]
theorem zW {P : Int -> Prop} {p : Int} (hN : HasAdj N b n A) (n40 : n <= 40) (hA : ∀ x y, Inn n x -> P x -> y ∈ A.getD x.toNat [] -> Inn n y /\ P y) (hF : ∀ r, (A.getD r []).length < 130) : ∀ (m : Nat) (fs ws : List Int) (g4 g5 : Option CD), Srch n A P p fs ws -> ws.length <= fs.length -> 2 * (n - fs.length) + ws.length < m ->
 ∃ fs' g4' g5', Srch n A P p fs' [] /\ cP (rA (aD 3)) wB m (GR (.c (b + n)) pp N.length g4 g5) (Sts N fs ws) = some (.nx (GR (.c (b + n)) pp N.length g4' g5'), Sts N fs' [])
 | 0, _, _, _, _, _, _, h => by omega
 | m + 1, fs, ws, g4, g5, h, wl, hm => by
  have few := nD h.nd fun x hx => (h.ok x hx).1
  unfold cP
  rw [YV, Option.bind_some]
  rcases List.eq_nil_or_concat ws with rfl | ⟨ws0, u, rfl⟩
  · exact ⟨fs, g4, g5, h, by simp⟩
  · rw [List.concat_eq_append] at h wl hm ⊢
    rw [List.length_append, List.length_singleton] at wl hm
    have hu := (h.ok u (h.sub u (List.mem_append_right _ (List.mem_singleton.mpr rfl)))).1
    obtain ⟨new, e, h'⟩ := h.step hA
    have few' := nD h'.nd fun x hx => (h'.ok x hx).1
    obtain ⟨a4, a5, t⟩ := KL (pp := pp) (fs := fs) (ws := ws0) (g4 := g4) (g5 := g5) hN hu (hF _) (by omega) (by omega)
    rw [e] at t
    dsimp only at t
    rw [List.length_append] at few'
    obtain ⟨fs', b4, b5, d, r⟩ := zW hN n40 hA hF m (fs ++ new) (ws0 ++ new) a4 a5 h' (by rw [List.length_append, List.length_append]; omega) (by rw [List.length_append, List.length_append]; omega)
    refine ⟨fs', b4, b5, d, ?_⟩
    have ne : (!(ws0 ++ [u]).isEmpty) = true := by simp
    dsimp only
    rw [ne, if_pos rfl, t, Option.bind_some]
    exact r
end
theorem yZ {N : Sto} : ∀ (xs fs : List Int) (g : Option CD), (fs ++ xs).Nodup -> fs.length + xs.length < 1000 ->
 dcF N.length (hName 0) fS (mN (aD 0)) (fC (.bool true)) (xs.map fun i => I i) [g] (N ++ [.dk (kvs fs)]) = some (N ++ [.dk (kvs (fs ++ xs))])
 | [], fs, g, _, _ => by rw [List.append_nil]; rfl
 | x :: xs, fs, g, nd, hl => by
  have nx : x ∉ fs := fun h => by
   rw [List.nodup_append] at nd
   exact nd.2.2 x h x (List.mem_cons_self ..) rfl
  rw [List.length_cons] at hl
  have e : fs ++ x :: xs = fs ++ [x] ++ xs := by simp
  rw [e] at nd ⊢
  have ih := yZ (N := N) xs (fs ++ [x]) (some (I x)) nd (by rw [List.length_append, List.length_singleton]; omega)
  have hD : (N ++ [Cell.dk (kvs fs)])[N.length]? = some (.dk (kvs fs)) := mH
  have l1 : (kvs fs).length < sizeLine := by unfold kvs; rw [List.length_map, sizeLine_eq]; omega
  have st : oF (N ++ [.dk (kvs fs)]) (.c N.length) (.inl (.inl x)) (.d (.bool true)) = some (N ++ [.dk (kvs (fs ++ [x]))]) := by
   simp only [oF, hD, if_pos l1, tS nx]
   rw [mT]
  have k1 : keyOf (I x) = some (.inl x) := rfl
  rw [List.map_cons]
  unfold dcF
  simp! [fS, mN, k1, st, ih]
theorem rH : ∀ fs : List Int, sQ ((kvs fs).map (·.1)) = some fs
 | [] => rfl
 | x :: fs => by
  show (sQ ((kvs fs).map (·.1))).map (x :: ·) = _
  rw [rH fs]
  rfl
theorem CB {N : Sto} {b n : Nat} {us ts : List Tie} {p : Int} (hN : HasAdj N b n (iC n ts)) (n40 : n <= 40) (h64 : ts.length < 64) (ok : ∀ t ∈ us, Inn n t.i /\ Inn n t.j) (sub : ∀ t, t ∈ ts ↔ t ∈ us /\ t.a > 0) (hp : Inn n p) :
 ∃ L, cU [.c (b + n), .d (.tuple [.int p])] N = some (.d (.tuple ((comp n us p).map .int)), N ++ L) := by
 have okt : ∀ t ∈ ts, Inn n t.i /\ Inn n t.j := fun t ht => ok t ((sub t).mp ht).1
 have hA : ∀ x y, Inn n x -> at0 (cF n us) x = at0 (cF n us) p -> y ∈ (iC n ts).getD x.toNat [] -> Inn n y /\ at0 (cF n us) y = at0 (cF n us) p := fun x y hx e hy => by
  obtain ⟨t, ht, h⟩ := (pL okt hx).mp hy
  have he := DA ok ((sub t).mp ht).1 ((sub t).mp ht).2
  rcases h with ⟨h1, h2⟩ | ⟨h1, h2⟩
  · rw [h2]; exact ⟨(okt t ht).2, by rw [<- he, h1, e]⟩
  · rw [h2]; exact ⟨(okt t ht).1, by rw [he, h1, e]⟩
 obtain ⟨fs, g4, g5, d, wl⟩ := zW (pp := .d (.tuple [.int p])) (P := fun q => at0 (cF n us) q = at0 (cF n us) p) (p := p) hN n40 hA (JR h64) (2 * (n - 1) + 2) [p] [p] none none (Srch.start hp rfl) (Nat.le_refl _) (by show 2 * (n - 1) + 1 < _; omega)
 have wl' : gZ (GR (.c (b + n)) (.d (.tuple [.int p])) N.length none none) (Sts N [p] [p]) = some (.nx (GR (.c (b + n)) (.d (.tuple [.int p])) N.length g4 g5), Sts N fs []) := qA wl
 have few := nD d.nd fun x hx => (d.ok x hx).1
 have srt : kD [.c N.length] (Sts N fs []) = some (.d (.list ((comp n us p).map .int)), Sts N fs []) := by
  have hd := EG (N := N) (fs := fs) (ws := [])
  simp only [kD, hd, rH, Option.bind_some, if_pos (show fs.length < 64 by omega), d.done ok sub hp]
 have dc := yZ (N := N) [p] [] none (by simp) (by simp)
 have c0 : eF [some (.c (b + n)), some (.d (.tuple [.int p])), none, none, none, none] N = some (.c N.length, N ++ [.dk (kvs [p])]) := by
  unfold eF fDc
  rw [show bZ (aD 1) [some (.c (b + n)), some (.d (.tuple [.int p])), none, none, none, none] N = some ([I p], N) from rfl, Option.bind_some]
  dsimp only
  rw [show lF [none] [some (.c (b + n)), some (.d (.tuple [.int p])), none, none, none, none] = [none] from rfl]
  show ((dcF N.length _ _ _ _ ([p].map fun i => I i) [none] (N ++ [.dk (kvs [])])).bind _) = _
  rw [dc, Option.bind_some]
  rfl
 have l0 : vA [.d (.tuple [.int p])] (N ++ [.dk (kvs [p])]) = some (.c (N.length + 1), Sts N [p] [p]) := by
  show some (CD.c (N ++ [Cell.dk (kvs [p])]).length, N ++ [Cell.dk (kvs [p])] ++ [Cell.lst [I p]]) = _
  rw [List.length_append, List.append_assoc]
  rfl
 have tf : cA [.d (.list ((comp n us p).map .int))] (Sts N fs []) = some (.d (.tuple ((comp n us p).map .int)), Sts N fs []) := rfl
 refine ⟨[.dk (kvs fs), gQ []], ?_⟩
 simp! [cU, fL, c0, l0, wl', srt, tf]
def ins (s : List Int) (x : Int) : List Int := if x ∈ s then s else s ++ [x]
theorem sF : ∀ (r s : List Int), uV (kvs s) (kvs r) = kvs (r.foldl ins s)
 | [], s => rfl
 | x :: r, s => by
  rw [List.foldl_cons, <- sF r (ins s x)]
  show (kvs r).foldl _ (putD (kvs s) (.inl x : Key) T1) = (kvs r).foldl _ (kvs (ins s x))
  unfold ins
  by_cases h : x ∈ s
  · rw [if_pos h, wL h]
  · rw [if_neg h, tS h]
theorem VU {s : List Int} {x : Int} (h : s.Nodup) : (ins s x).Nodup := by
 unfold ins; split
 · exact h
 · rename_i hx
   rw [List.nodup_append]
   exact ⟨h, by simp, fun a ha b hb => by rw [List.mem_singleton] at hb; rw [hb]; exact fun q => hx (q ▸ ha)⟩
theorem NB {s : List Int} {x y : Int} : y ∈ ins s x ↔ y ∈ s \/ y = x := by
 unfold ins; split
 · rename_i hx
   exact ⟨.inl, fun h => h.elim id fun e => e ▸ hx⟩
 · rw [List.mem_append, List.mem_singleton]
theorem WS : ∀ (r s : List Int), s.Nodup -> (r.foldl ins s).Nodup /\ ∀ y, y ∈ r.foldl ins s ↔ y ∈ s \/ y ∈ r
 | [], s, h => ⟨h, fun y => by simp⟩
 | x :: r, s, h => by
  obtain ⟨h1, h2⟩ := WS r (ins s x) (VU h)
  rw [List.foldl_cons]
  exact ⟨h1, fun y => by rw [h2 y, NB, List.mem_cons, or_assoc]⟩
section
variable (n : Nat) (us : List Tie)
abbrev lab (p : Int) : Int := at0 (cF n us) p
def kS (p : Int) : Bool := (zs p.toNat).all fun r => lab n us r != lab n us p
def qK (p : Int) : PyData := .tuple ((comp n us p).map .int)
def aM (k : Nat) : List PyData := ((zs k).filter (kS n us)).map (qK n us)
end
theorem NA (k : Nat) : zs (k + 1) = zs k ++ [(k : Int)] := by
 unfold zs
 rw [List.range_succ, List.map_append]
 rfl
theorem iD {n : Nat} {us : List Tie} (k : Nat) : aM n us (k + 1) = aM n us k ++ (if kS n us (k : Int) = true then [qK n us (k : Int)] else []) := by
 unfold aM
 rw [NA, List.filter_append, List.map_append]
 congr 1
 rw [List.filter_cons, List.filter_nil]
 cases kS n us (k : Int) <;> rfl
theorem mK {n : Nat} {us : List Tie} (k : Nat) : (aM n us k).length <= k := by
 unfold aM
 rw [List.length_map]
 exact Nat.le_trans (List.length_filter_le ..) (by rw [kW]; exact Nat.le_refl _)
theorem tR {n : Nat} {us : List Tie} {p : Int} : (comp n us p).Nodup := List.nodup_iff_pairwise_ne.mpr (((PL n).filter _).imp fun h => Int.ne_of_lt h)
theorem comp_mem {n : Nat} {us : List Tie} {p q : Int} : q ∈ comp n us p ↔ Inn n q /\ lab n us q = lab n us p := by
 unfold comp
 rw [List.mem_filter, zs_mem, beq_iff_eq]
structure Seen (n : Nat) (us : List Tie) (k : Nat) (s : List Int) : Prop where
 nd : s.Nodup
 is : ∀ q, q ∈ s ↔ Inn n q /\ ∃ r : Int, Inn k r /\ lab n us q = lab n us r
theorem Seen.first {n : Nat} {us : List Tie} {k : Nat} {s : List Int} (h : Seen n us k s) (hk : k < n) : decide ((k : Int) ∈ s) = !kS n us (k : Int) := by
 have : (k : Int) ∈ s ↔ ¬ kS n us (k : Int) = true := by
  rw [h.is]
  unfold kS
  rw [List.all_eq_true, Int.toNat_natCast]
  constructor
  · rintro ⟨_, r, hr, e⟩ q
    have := q r (zs_mem.mpr hr)
    rw [bne_iff_ne] at this
    exact this e.symm
  · intro q
    refine ⟨⟨by omega, by omega⟩, Classical.byContradiction fun c => q fun r hr => ?_⟩
    rw [bne_iff_ne]
    exact fun e => c ⟨r, zs_mem.mp hr, e.symm⟩
 by_cases h1 : (k : Int) ∈ s
 · rw [decide_eq_true h1, Bool.eq_false_iff.mpr (this.mp h1)]; rfl
 · rw [decide_eq_false h1]
   have : kS n us (k : Int) = true := Classical.byContradiction fun c => h1 (this.mpr c)
   rw [this]; rfl
theorem Seen.more {n : Nat} {us : List Tie} {k : Nat} {s : List Int} (h : Seen n us k s) (hk : k < n) : Seen n us (k + 1) ((comp n us (k : Int)).foldl ins s) := by
 obtain ⟨h1, h2⟩ := WS (comp n us (k : Int)) s h.nd
 refine ⟨h1, fun q => ?_⟩
 rw [h2 q, h.is, comp_mem]
 constructor
 · rintro (⟨a, r, hr, e⟩ | ⟨a, e⟩)
   · exact ⟨a, r, ⟨hr.1, by have := hr.2; omega⟩, e⟩
   · exact ⟨a, k, ⟨by omega, by omega⟩, e⟩
 · rintro ⟨a, r, hr, e⟩
   by_cases hrk : r = k
   · rw [hrk] at e; exact .inr ⟨a, e⟩
   · exact .inl ⟨a, r, ⟨hr.1, by have := hr.2; omega⟩, e⟩
theorem Seen.stay {n : Nat} {us : List Tie} {k : Nat} {s : List Int} (h : Seen n us k s) (hk : (k : Int) ∈ s) : Seen n us (k + 1) s := by
 refine ⟨h.nd, fun q => ?_⟩
 rw [h.is]
 constructor
 · rintro ⟨a, r, hr, e⟩
   exact ⟨a, r, ⟨hr.1, by have := hr.2; omega⟩, e⟩
 · rintro ⟨a, r, hr, e⟩
   by_cases hrk : r = k
   · obtain ⟨_, r', hr', e'⟩ := (h.is _).mp hk
     rw [hrk] at e
     exact ⟨a, r', hr', e.trans e'⟩
   · exact ⟨a, r, ⟨hr.1, by have := hr.2; omega⟩, e⟩
abbrev Stj (N : Sto) (s : List Int) (rs : List PyData) (X : Sto) : Sto := N ++ (.dk (kvs s) :: .lst (rs.map CD.d) :: X)
section
variable {N : Sto} {s s' : List Int} {rs rs' : List PyData} {X : Sto}
theorem HR : (Stj N s rs X)[N.length]? = some (.dk (kvs s)) := by
 unfold Stj; rw [List.getElem?_append_right (Nat.le_refl _), Nat.sub_self]; rfl
theorem IU : (Stj N s rs X)[N.length + 1]? = some (.lst (rs.map CD.d)) := by
 unfold Stj; rw [List.getElem?_append_right (Nat.le_add_right ..), Nat.add_sub_cancel_left]; rfl
theorem HL : (Stj N s rs X).set N.length (.dk (kvs s')) = Stj N s' rs X := by
 unfold Stj; rw [List.set_append_right _ _ (Nat.le_refl _), Nat.sub_self]; rfl
theorem DX : (Stj N s rs X).set (N.length + 1) (.lst (rs'.map CD.d)) = Stj N s rs' X := by
 unfold Stj; rw [List.set_append_right _ _ (Nat.le_add_right ..), Nat.add_sub_cancel_left]; rfl
theorem uB (L : Sto) : Stj N s rs X ++ L = Stj N s rs (X ++ L) := by
 unfold Stj; rw [List.append_assoc]; rfl
theorem AV : (Stj N s rs X).length = N.length + (X.length + 2) := by
 unfold Stj; rw [List.length_append]; rfl
end
abbrev GJ (x0 x1 b : CD) (D : Nat) (g5 g6 : Option CD) : Ga := [some x0, some x1, some b, some (.c D), some (.c (D + 1)), g5, g6]
section
variable {N : Sto} {b n : Nat} {us ts : List Tie} {x0 x1 : CD}
theorem CH {k : Nat} {s : List Int} {X : Sto} {g6 : Option CD} (hN : HasAdj N b n (iC n ts)) (n40 : n <= 40) (h64 : ts.length < 64) (ok : ∀ t ∈ us, Inn n t.i /\ Inn n t.j) (sub : ∀ t, t ∈ ts ↔ t ∈ us /\ t.a > 0) (hk : k < n) (hs : Seen n us k s) :
 ∃ s' X' g6', Seen n us (k + 1) s' /\ dJ (GJ x0 x1 (.c (b + n)) N.length (some (I (k : Nat))) g6) (Stj N s (aM n us k) X) = some (.nx (GJ x0 x1 (.c (b + n)) N.length (some (I (k : Nat))) g6'), Stj N s' (aM n us (k + 1)) X') := by
 have hp : Inn n (k : Int) := ⟨by omega, by omega⟩
 have fi := hs.first hk
 have a1 : atD (Stj N s (aM n us k) X) (.c N.length) (.inl (.inl (k : Int))) = some (lkC (kvs s) (.inl (k : Int) : Key)) := by simp only [atD, HR]
 have k1 : keyOf (I (k : Nat)) = some (.inl (k : Int)) := rfl
 have lk := FT s (k : Int)
 by_cases h : (k : Int) ∈ s
 · rw [decide_eq_true h] at lk fi
   have f0 : kS n us (k : Int) = false := by cases e : kS n us (k : Int) with
    | false => rfl
    | true => rw [e] at fi; cases fi
   refine ⟨s, X, g6, hs.stay h, ?_⟩
   rw [iD, f0, if_neg (by decide), List.append_nil]
   simp! [dJ, oK, mN, k1, a1, lk]
 · rw [decide_eq_false h] at lk fi
   have f1 : kS n us (k : Int) = true := by cases e : kS n us (k : Int) with
    | true => rfl
    | false => rw [e] at fi; cases fi
   have hM : HasAdj (Stj N s (aM n us k) X) b n (iC n ts) := hN.app
   obtain ⟨L, re⟩ := CB (us := us) hM n40 h64 ok sub hp
   rw [uB] at re
   have few : s.length <= n := nD hs.nd fun x hx => ((hs.is x).mp hx).1
   have fc : (comp n us (k : Int)).length <= n := nD tR fun x hx => (comp_mem.mp hx).1
   have l1 : (1 : Nat) <= sizeLine := sz (by decide)
   have it : bZ (aD 6) (GJ x0 x1 (.c (b + n)) N.length (some (I (k : Nat))) (some (.d (qK n us (k : Int))))) (Stj N s (aM n us k) (X ++ L)) = some ((comp n us (k : Int)).map (fun i => I i), Stj N s (aM n us k) (X ++ L)) := by
    show some (((comp n us (k : Int)).map PyData.int).map CD.d, _) = _
    rw [List.map_map]
    rfl
   have dc := yZ (N := Stj N s (aM n us k) (X ++ L)) (comp n us (k : Int)) [] none (by rw [List.nil_append]; exact tR) (by rw [List.length_nil]; omega)
   rw [List.nil_append] at dc
   have c0 : gJ (GJ x0 x1 (.c (b + n)) N.length (some (I (k : Nat))) (some (.d (qK n us (k : Int))))) (Stj N s (aM n us k) (X ++ L)) = some (.c (N.length + ((X ++ L).length + 2)), Stj N s (aM n us k) (X ++ L ++ [.dk (kvs (comp n us (k : Int)))])) := by
    unfold gJ fDc
    rw [it, Option.bind_some]
    dsimp only
    rw [show lF [none] (GJ x0 x1 (.c (b + n)) N.length (some (I (k : Nat))) (some (.d (qK n us (k : Int))))) = [none] from rfl]
    show ((dcF _ _ _ _ _ _ [none] (Stj N s (aM n us k) (X ++ L) ++ [.dk (kvs [])])).bind _) = _
    rw [dc, Option.bind_some, uB, AV]
   have tyd : tyB "dict" (Stj N s (aM n us k) (X ++ L)) (.c N.length) = true := by simp only [tyB, HR]; decide
   have at2 : (Stj N s (aM n us k) (X ++ L ++ [.dk (kvs (comp n us (k : Int)))]))[N.length + ((X ++ L).length + 2)]? = some (.dk (kvs (comp n us (k : Int)))) := by
    rw [<- uB, <- AV (N := N) (s := s) (rs := aM n us k) (X := X ++ L)]
    exact mH
   have ml : (kvs s).length + (kvs (comp n us (k : Int))).length <= sizeLine := by
    unfold kvs
    rw [List.length_map, List.length_map]
    exact sz (by omega)
   have ne : ¬ (N.length = N.length + ((X ++ L).length + 2)) := by omega
   have up : jZ (.c N.length) [.c (N.length + ((X ++ L).length + 2))] (Stj N s (aM n us k) (X ++ L ++ [.dk (kvs (comp n us (k : Int)))])) = some (.d .none, Stj N ((comp n us (k : Int)).foldl ins s) (aM n us k) (X ++ L ++ [.dk (kvs (comp n us (k : Int)))])) := by
    simp only [jZ, if_neg ne, HR, at2, if_pos ml, sF, HL]
   have tyl : tyB "list" (Stj N ((comp n us (k : Int)).foldl ins s) (aM n us k) (X ++ L ++ [.dk (kvs (comp n us (k : Int)))])) (.c (N.length + 1)) = true := by simp only [tyB, IU]; decide
   have ll : ((aM n us k).map CD.d).length < sizeLine := by
    rw [List.length_map, sizeLine_eq]
    have := mK (n := n) (us := us) k
    omega
   have ap : bW (.c (N.length + 1)) [.d (qK n us (k : Int))] (Stj N ((comp n us (k : Int)).foldl ins s) (aM n us k) (X ++ L ++ [.dk (kvs (comp n us (k : Int)))])) = some (.d .none, Stj N ((comp n us (k : Int)).foldl ins s) (aM n us (k + 1)) (X ++ L ++ [.dk (kvs (comp n us (k : Int)))])) := by
    simp only [bW, IU, if_pos ll]
    rw [iD, f1, if_pos rfl]
    have := DX (N := N) (s := (comp n us (k : Int)).foldl ins s) (rs := aM n us k) (rs' := aM n us k ++ [qK n us (k : Int)]) (X := X ++ L ++ [.dk (kvs (comp n us (k : Int)))])
    rw [List.map_append, List.map_singleton] at this
    rw [this]
   refine ⟨(comp n us (k : Int)).foldl ins s, X ++ L ++ [.dk (kvs (comp n us (k : Int)))], some (.d (qK n us (k : Int))), hs.more hk, ?_⟩
   have re' : cU [.c (b + n), .d (.tuple [.int (k : Int)])] (Stj N s (aM n us k) X) = some (.d (qK n us (k : Int)), Stj N s (aM n us k) (X ++ L)) := re
   simp! [dJ, oK, mN, k1, a1, lk, if_pos l1, re', cX, tyd, c0, up, tyl, ap]
theorem join_loop (hN : HasAdj N b n (iC n ts)) (n40 : n <= 40) (h64 : ts.length < 64) (ok : ∀ t ∈ us, Inn n t.i /\ Inn n t.j) (sub : ∀ t, t ∈ ts ↔ t ∈ us /\ t.a > 0) : ∀ (m k : Nat) (s : List Int) (X : Sto) (g5 g6 : Option CD), k + m = n -> Seen n us k s ->
 ∃ s' X' g5' g6', eE (hName 5) dJ (cS (k : Int) m) (GJ x0 x1 (.c (b + n)) N.length g5 g6) (Stj N s (aM n us k) X) = some (.nx (GJ x0 x1 (.c (b + n)) N.length g5' g6'), Stj N s' (aM n us n) X')
 | 0, k, s, X, g5, g6, e, hs => by
  have : k = n := by omega
  subst this
  exact ⟨s, X, g5, g6, rfl⟩
 | m + 1, k, s, X, g5, g6, e, hs => by
  obtain ⟨s1, X1, a6, hs1, t⟩ := CH (x0 := x0) (x1 := x1) (X := X) (g6 := g6) hN n40 h64 ok sub (show k < n by omega) hs
  obtain ⟨s', X', c5, c6, h⟩ := join_loop hN n40 h64 ok sub m (k + 1) s1 X1 (some (I (k : Nat))) a6 (by omega) hs1
  refine ⟨s', X', c5, c6, ?_⟩
  rw [<- h, jH, show ((k + 1 : Nat) : Int) = (k : Int) + 1 from rfl]
  conv => lhs; unfold eE
  rw [show hName 5 (I (k : Int)) (GJ x0 x1 (.c (b + n)) N.length g5 g6) (Stj N s (aM n us k) X) = some (GJ x0 x1 (.c (b + n)) N.length (some (I (k : Int))) g6, Stj N s (aM n us k) X) from rfl, Option.bind_some]
  dsimp only
  rw [t, Option.bind_some]
end
theorem dF {a b : SF} {γ γ' : Ga} {M M' : Sto} (h : a γ M = some (.nx γ', M')) : aZ a b γ M = b γ' M' := by
 unfold aZ
 rw [h]
 rfl
theorem eS {e : EF} {i : Nat} {γ : Ga} {M M' : Sto} {x : CD} (h : e γ M = some (x, M')) : bU e (hName i) γ M = some (.nx (γ.set i (some x)), M') := by
 unfold bU
 rw [h]
 rfl
theorem uN {f : AF} {g : GF} {b : SF} {γ : Ga} {M M' : Sto} {xs : List CD} (h : f γ M = some (xs, M')) : kH f g b γ M = eE g b xs γ M' := by
 unfold kH
 rw [h]
 rfl
theorem BH {ps N : Nat} {b : SF} {xs : List CD} {M M' : Sto} {x : CD} (hl : xs.length = ps) (h : b (xs.map some ++ List.replicate (N - xs.length) none) M = some (.rt x, M')) : fnF ps N b xs M = some (x, M') := by
 unfold fnF
 rw [if_pos hl, h]
 rfl
theorem wO {n : Nat} {us ts : List Tie} {M : Sto} (n40 : n <= 40) (h64 : ts.length < 64) (ok : ∀ t ∈ us, Inn n t.i /\ Inn n t.j) (sub : ∀ t, t ∈ ts ↔ t ∈ us /\ t.a > 0) :
 ∃ L, gF [I n, .d (.list (ts.map prP))] M = some (.d (.tuple (aM n us n)), M ++ L) := by
 have okt : ∀ t ∈ ts, Inn n t.i /\ Inn n t.j := fun t ht => ok t ((sub t).mp ht).1
 have be := HY (M := M) n40 okt h64
 have hN : HasAdj (StA M (iC n ts) (.lst (aY M.length n))) M.length n (iC n ts) := HasAdj.new (by unfold iC; rw [KR, List.length_replicate])
 obtain ⟨N, hNe⟩ : ∃ N, N = StA M (iC n ts) (.lst (aY M.length n)) := ⟨_, rfl⟩
 rw [<- hNe] at be hN
 have s0 : Seen n us 0 [] := ⟨by simp, fun q => ⟨fun h => (nomatch h), fun ⟨_, r, hr, _⟩ => by have := hr.1; have := hr.2; omega⟩⟩
 obtain ⟨s', X', c5, c6, lp⟩ := join_loop (x0 := I n) (x1 := .d (.list (ts.map prP))) hN n40 h64 ok sub n 0 [] [] none none (by omega) s0
 have sm : bO (n : Int) = true := iY (by omega) (by omega)
 have r0 : cZ (aC (aD 0) aI) (GJ (I n) (.d (.list (ts.map prP))) (.c (M.length + n)) N.length none none) (Stj N [] (aM n us 0) []) = some (cS 0 n, Stj N [] (aM n us 0) []) := oN sm
 clear sm
 rw [show ((0 : Nat) : Int) = 0 from rfl] at lp
 have d1 : uC [some (I n), some (.d (.list (ts.map prP))), some (.c (M.length + n)), none, none, none, none] N = some (.c N.length, N ++ [.dk (kvs [])]) := rfl
 have d2 : N ++ [Cell.dk (kvs [])] ++ [Cell.lst []] = Stj N [] (aM n us 0) [] := by rw [List.append_assoc]; rfl
 have ln : (N ++ [Cell.dk (kvs [])]).length = N.length + 1 := by rw [List.length_append]; rfl
 have tf : cA [.c (N.length + 1)] (Stj N s' (aM n us n) X') = some (.d (.tuple (aM n us n)), Stj N s' (aM n us n) X') := by
  simp only [cA, IU, jF, Option.bind_some]
 refine ⟨(iC n ts).map gQ ++ [.lst (aY M.length n)] ++ (.dk (kvs s') :: .lst ((aM n us n).map CD.d) :: X'), ?_⟩
 rw [<- List.append_assoc, <- show N = M ++ ((iC n ts).map gQ ++ [.lst (aY M.length n)]) from hNe]
 have nf : mC aI [some (I n), some (.d (.list (ts.map prP))), some (.c (M.length + n)), some (.c N.length), none, none, none] (N ++ [.dk (kvs [])]) = some (.c (N.length + 1), Stj N [] (aM n us 0) []) := by
  show (if ([] : List CD).length <= sizeLine then some (CD.c (N ++ [Cell.dk (kvs [])]).length, N ++ [Cell.dk (kvs [])] ++ [Cell.lst []]) else none) = _
  rw [if_pos (show ([] : List CD).length <= sizeLine from Nat.zero_le _), ln, d2]
 have e1 : aJ cH (aC (aD 0) (aC (aD 1) aI)) [some (I n), some (.d (.list (ts.map prP))), none, none, none, none, none] M = some (.c (M.length + n), N) := by
  unfold aJ
  rw [show aC (aD 0) (aC (aD 1) aI) [some (I n), some (.d (.list (ts.map prP))), none, none, none, none, none] M = some ([I n, .d (.list (ts.map prP))], M) from rfl, Option.bind_some]
  exact be
 have e2 : aJ cA (aC (aD 4) aI) (GJ (I n) (.d (.list (ts.map prP))) (.c (M.length + n)) N.length c5 c6) (Stj N s' (aM n us n) X') = some (.d (.tuple (aM n us n)), Stj N s' (aM n us n) X') := by
  unfold aJ
  rw [show aC (aD 4) aI (GJ (I n) (.d (.list (ts.map prP))) (.c (M.length + n)) N.length c5 c6) (Stj N s' (aM n us n) X') = some ([.c (N.length + 1)], Stj N s' (aM n us n) X') from rfl, Option.bind_some]
  exact tf
 refine BH rfl ?_
 unfold iX
 simp only [List.map_cons, List.map_nil, List.length_cons, List.length_nil, Nat.reduceAdd, Nat.reduceSub, List.replicate_succ, List.replicate_zero, List.cons_append, List.nil_append]
 rw [dF (eS e1)]
 simp only [List.set_cons_succ, List.set_cons_zero]
 rw [dF (eS d1)]
 simp only [List.set_cons_succ, List.set_cons_zero]
 rw [dF (eS nf)]
 simp only [List.set_cons_succ, List.set_cons_zero]
 rw [dF ((uN r0).trans lp)]
 unfold cO
 rw [e2]
 rfl
abbrev hp (l : List Int) : CD := .d (.list (l.map .int))
theorem mW {n : Nat} {l : List Int} {p : Int} {M : Sto} (hl : l.length = n) (h : Inn n p) : ixF (hp l) (I p) M = some (I (at0 l p), M) := by
 have e : p = ((p.toNat : Nat) : Int) := by omega
 have hlt : p.toNat < l.length := by omega
 have g : (l.map PyData.int)[p.toNat]? = some (.int (at0 l p)) := by
  rw [List.getElem?_map, List.getElem?_eq_getElem hlt]
  simp only [at0, List.getD_eq_getElem?_getD, List.getElem?_eq_getElem hlt, Option.map_some, Option.getD_some]
 have := ixL (M := M) g
 rw [<- e] at this
 exact this
theorem qC {n : Nat} {l : List Int} {y p : Int} {M : Sto} (hl : l.length = n) (h : Inn n p) : ∀ (zs : List Int) (g : Option CD),
 lcF (hName 3) fS (fIf (gB (fOp (eqX false) (aD 3) (aD 0))) (fOp ixF (aD 1) (aD 2)) (aD 3)) (zs.map fun i => I i) [some (I y), some (hp l), some (I p), g] M = some ((zs.map fun z => if z = y then at0 l p else z).map fun i => I i, M)
 | [], g => rfl
 | z :: zs, g => by
  have ih := qC (M := M) (y := y) hl h zs (some (I z))
  rw [List.map_cons]
  unfold lcF
  have ix := mW (M := M) hl h
  by_cases e : z = y
  · have b : (z == y) = true := by rw [e]; exact beq_self_eq_true y
    simp! [fS, qG, b, ix, ih, if_pos e]
  · have b : (z == y) = false := beq_eq_false_iff_ne.mpr e
    simp! [fS, qG, b, ih, if_neg e]
abbrev GL (x0 x1 : CD) (l : List Int) (g3 g4 g5 g6 : Option CD) : Ga := [some x0, some x1, some (hp l), g3, g4, g5, g6, none, none]
theorem HF {n : Nat} {l : List Int} {t : Tie} {x0 x1 : CD} {g6 : Option CD} {M : Sto} (hl : l.length = n) (n40 : n <= 40) (hi : Inn n t.i) (hj : Inn n t.j) :
 ∃ g6', bP (GL x0 x1 l (some (I t.i)) (some (I t.j)) (some (.d (.tuple [.int t.a, .int t.b]))) g6) M = some (.nx (GL x0 x1 (cY l t) (some (I t.i)) (some (I t.j)) (some (.d (.tuple [.int t.a, .int t.b]))) g6'), M) := by
 have xa : ixF (.d (.tuple [.int t.a, .int t.b])) (I 0) M = some (I t.a, M) := rfl
 have xi := mW (M := M) hl hi
 have xj := mW (M := M) hl hj
 by_cases ha : t.a > 0
 · have d1 : decide (t.a > 0) = true := decide_eq_true ha
   by_cases e : at0 l t.i = at0 l t.j
   · have b : (at0 l t.i == at0 l t.j) = true := by rw [e]; exact beq_self_eq_true _
     have r : cY l t = l := by unfold cY; rw [if_neg fun h => h.2 e]
     refine ⟨g6, ?_⟩
     rw [r]
     simp! [bP, xa, d1, xi, xj, TQ, b]
   · have b : (at0 l t.i == at0 l t.j) = false := beq_eq_false_iff_ne.mpr e
     have r : cY l t = l.map (fun z => if z = at0 l t.j then at0 l t.i else z) := by unfold cY; rw [if_pos ⟨ha, e⟩]
     have it : bZ (aD 2) (GL x0 x1 l (some (I t.i)) (some (I t.j)) (some (.d (.tuple [.int t.a, .int t.b]))) (some (I (at0 l t.j)))) M = some (l.map (fun i => I i), M) := by
      show some ((l.map PyData.int).map CD.d, M) = _
      rw [List.map_map]
      rfl
     have cp : eW (GL x0 x1 l (some (I t.i)) (some (I t.j)) (some (.d (.tuple [.int t.a, .int t.b]))) (some (I (at0 l t.j)))) M = some (hp (cY l t), M) := by
      unfold eW
      refine mF it (sz (by rw [List.length_map]; omega)) ?_ (sz (by rw [List.length_map, gU]; omega))
      rw [show lF [some 6, some 2, some 3, none] (GL x0 x1 l (some (I t.i)) (some (I t.j)) (some (.d (.tuple [.int t.a, .int t.b]))) (some (I (at0 l t.j)))) = [some (I (at0 l t.j)), some (hp l), some (I t.i), none] from rfl, qC hl hi l none, <- r, List.map_map]
      rfl
     refine ⟨some (I (at0 l t.j)), ?_⟩
     simp! [bP, xa, d1, xi, xj, TQ, b, cp]
 · have d1 : decide (t.a > 0) = false := decide_eq_false ha
   have r : cY l t = l := by unfold cY; rw [if_neg fun h => ha h.1]
   refine ⟨g6, ?_⟩
   rw [r]
   simp! [bP, xa, d1]
abbrev G3' : GF := gO 3 (aX (hName 3) (aX (hName 4) (aX (hName 5) gM)))
theorem vR {n : Nat} {x0 x1 : CD} {M : Sto} (n40 : n <= 40) : ∀ (us : List Tie) (l : List Int) (g3 g4 g5 g6 : Option CD), l.length = n -> (∀ t ∈ us, Inn n t.i /\ Inn n t.j) ->
 ∃ a3 a4 a5 a6, eE G3' bP ((aN us).map .d) (GL x0 x1 l g3 g4 g5 g6) M = some (.nx (GL x0 x1 (us.foldl cY l) a3 a4 a5 a6), M)
 | [], l, g3, g4, g5, g6, _, _ => ⟨g3, g4, g5, g6, rfl⟩
 | t :: us, l, g3, g4, g5, g6, hl, ok => by
  obtain ⟨hi, hj⟩ := ok t (List.mem_cons_self ..)
  obtain ⟨c6, tn⟩ := HF (x0 := x0) (x1 := x1) (g6 := g6) (M := M) hl n40 hi hj
  obtain ⟨a3, a4, a5, a6, h⟩ := vR (x0 := x0) (x1 := x1) (M := M) n40 us (cY l t) (some (I t.i)) (some (I t.j)) (some (.d (.tuple [.int t.a, .int t.b]))) c6 (by rw [gU, hl]) fun s hs => ok s (List.mem_cons_of_mem _ hs)
  refine ⟨a3, a4, a5, a6, ?_⟩
  rw [List.foldl_cons, <- h]
  show eE G3' bP (.d (.tuple (f2 t)) :: (aN us).map .d) _ _ = _
  conv => lhs; unfold eE
  rw [show G3' (.d (.tuple (f2 t))) (GL x0 x1 l g3 g4 g5 g6) M = some (GL x0 x1 l (some (I t.i)) (some (I t.j)) (some (.d (.tuple [.int t.a, .int t.b]))) g6, M) from rfl, Option.bind_some]
  dsimp only
  rw [tn, Option.bind_some]
theorem oT {l : List Int} {k : Nat} (h : k < l.length) : at0 l (k : Int) = l[k] := by
 simp only [at0, Int.toNat_natCast, List.getD_eq_getElem?_getD, List.getElem?_eq_getElem h, Option.getD_some]
theorem zE {l : List Int} {k : Nat} (hk : k < l.length) : ∃ j : Nat, l.findIdx? (fun m => m == at0 l (k : Int)) = some j /\ ((j : Int) == (k : Int)) = ((zs k).all fun r => at0 l r != at0 l (k : Int)) := by
 cases h : l.findIdx? (fun m => m == at0 l (k : Int)) with
 | none =>
  rw [List.findIdx?_eq_none_iff] at h
  have := h l[k] (List.getElem_mem hk)
  rw [oT hk, beq_self_eq_true] at this
  cases this
 | some j =>
  refine ⟨j, rfl, ?_⟩
  rw [List.findIdx?_eq_some_iff_getElem] at h
  obtain ⟨hj, h1, h2⟩ := h
  rw [beq_iff_eq] at h1
  have hjk : j <= k := Nat.le_of_not_lt fun c => by
   have := h2 k c
   rw [oT hk, beq_self_eq_true] at this
   exact this rfl
  by_cases e : j = k
  · subst e
    rw [beq_self_eq_true]
    refine (List.all_eq_true.mpr fun r hr => ?_).symm
    obtain ⟨r0, r1⟩ := zs_mem.mp hr
    rw [bne_iff_ne]
    intro q
    have hr' : r.toNat < j := by omega
    have e2 : r = ((r.toNat : Nat) : Int) := by omega
    have := h2 r.toNat hr'
    rw [e2, oT (by omega)] at q
    rw [q, beq_self_eq_true] at this
    exact this rfl
  · have b : ((j : Int) == (k : Int)) = false := beq_eq_false_iff_ne.mpr (by omega)
    rw [b]
    refine (List.all_eq_false.mpr ⟨(j : Int), zs_mem.mpr ⟨by omega, by omega⟩, ?_⟩).symm
    rw [bne_iff_ne, oT hj, h1]
    exact fun c => c rfl
theorem pU : ∀ l : List Int, intsOf ((l.map PyData.int).map CD.d) = some l
 | [] => rfl
 | x :: l => by
  show (intsOf ((l.map PyData.int).map CD.d)).map (x :: ·) = _
  rw [pU l]
  rfl
theorem sO {n : Nat} {l : List Int} {p : Int} {M : Sto} (hl : l.length = n) (h : Inn n p) : ∀ (qs : List Int) (g : Option CD), (∀ q ∈ qs, Inn n q) ->
 lcF (hName 2) (gB (fOp (eqX false) (fOp ixF (aD 0) (aD 2)) (fOp ixF (aD 0) (aD 1)))) (aD 2) (qs.map fun i => I i) [some (hp l), some (I p), g] M = some ((qs.filter fun q => at0 l q == at0 l p).map fun i => I i, M)
 | [], g, _ => rfl
 | q :: qs, g, ok => by
  have ih := sO (M := M) hl h qs (some (I q)) fun x hx => ok x (List.mem_cons_of_mem _ hx)
  have xq := mW (M := M) hl (ok q (List.mem_cons_self ..))
  have xp := mW (M := M) hl h
  rw [List.map_cons, List.filter_cons]
  unfold lcF
  cases b : (at0 l q == at0 l p) with
  | true => simp! [xq, xp, qG, b, ih]
  | false => simp! [xq, xp, qG, b, ih]
abbrev GF2 (n : Nat) (x1 : CD) (l : List Int) (g3 g4 g5 g6 : Option CD) (D : Nat) (g8 : Option CD) : Ga := [some (I n), some x1, some (hp l), g3, g4, g5, g6, some (.c D), g8]
theorem RT (n : Nat) : cS 0 n = (zs n).map fun i => I i := by
 unfold cS zs
 rw [List.map_map]
 refine List.map_congr_left fun k _ => ?_
 show CD.d (.int (0 + (k : Nat))) = CD.d (.int (Int.ofNat k))
 rw [Int.zero_add]
 rfl
theorem CI {n : Nat} {us : List Tie} {x1 : CD} {g3 g4 g5 g6 : Option CD} {k : Nat} {M : Sto} (n40 : n <= 40) (hk : k < n) :
 cG (GF2 n x1 (cF n us) g3 g4 g5 g6 M.length (some (I (k : Nat)))) (M ++ [.lst ((aM n us k).map CD.d)]) = some (.nx (GF2 n x1 (cF n us) g3 g4 g5 g6 M.length (some (I (k : Nat)))), M ++ [.lst ((aM n us (k + 1)).map CD.d)]) := by
 have hl : (cF n us).length = n := by unfold cF; rw [IQ, kW]
 have hp' : Inn n (k : Int) := ⟨by omega, by omega⟩
 obtain ⟨j, fj, ej⟩ := zE (l := cF n us) (k := k) (by omega)
 have xk := fun (N : Sto) => mW (M := N) hl hp'
 have e1 : ∀ N : Sto, fOp (eqX false) (cX "list" kT (aD 2) (aC (fOp ixF (aD 2) (aD 8)) aI)) (aD 8) (GF2 n x1 (cF n us) g3 g4 g5 g6 M.length (some (I (k : Nat)))) N = some (B (kS n us (k : Int)), N) := fun N => by
  have ii : kT (hp (cF n us)) [I (at0 (cF n us) (k : Int))] N = some (I (j : Nat), N) := by
   simp only [kT, qQ, Option.bind_some, pU, fj]
  have ty : tyB "list" N (hp (cF n us)) = true := rfl
  have fs : ((j : Int) == (k : Int)) = kS n us (k : Int) := by rw [ej]; unfold kS; rw [Int.toNat_natCast]
  simp only [fOp, cX, aD, aC, aI, List.getElem?_cons_zero, List.getElem?_cons_succ, Option.bind_some, ty, if_true, xk, ii, qG, fs]
 have hD : (M ++ [Cell.lst ((aM n us k).map CD.d)])[M.length]? = some (.lst ((aM n us k).map CD.d)) := mH
 cases f : kS n us (k : Int) with
 | false =>
  rw [iD, f, if_neg (by decide), List.append_nil]
  simp only [cG, sIf, gB, e1, f, Option.bind_some, eB, asB, if_false, Bool.false_eq_true]
 | true =>
  have sm : bO (n : Int) = true := iY (by omega) (by omega)
  have r0 : cZ (aC (aD 0) aI) (GF2 n x1 (cF n us) g3 g4 g5 g6 M.length (some (I (k : Nat)))) (M ++ [.lst ((aM n us k).map CD.d)]) = some (cS 0 n, M ++ [.lst ((aM n us k).map CD.d)]) := oN sm
  rw [RT] at r0
  have cp : dQ (GF2 n x1 (cF n us) g3 g4 g5 g6 M.length (some (I (k : Nat)))) (M ++ [.lst ((aM n us k).map CD.d)]) = some (.d (.list ((comp n us (k : Int)).map .int)), M ++ [.lst ((aM n us k).map CD.d)]) := by
   unfold dQ
   refine mF r0 (sz (by rw [List.length_map, kW]; omega)) ?_ (sz (by rw [List.length_map]; exact Nat.le_trans (List.length_filter_le ..) (by rw [kW]; omega)))
   rw [show lF [some 2, some 8, none] (GF2 n x1 (cF n us) g3 g4 g5 g6 M.length (some (I (k : Nat)))) = [some (hp (cF n us)), some (I (k : Nat)), none] from rfl, sO hl hp' (zs n) none (fun q hq => zs_mem.mp hq), List.map_map]
   rfl
  have ll : ((aM n us k).map CD.d).length < sizeLine := by
   rw [List.length_map, sizeLine_eq]
   have := mK (n := n) (us := us) k
   omega
  have ap : bW (.c M.length) [.d (qK n us (k : Int))] (M ++ [.lst ((aM n us k).map CD.d)]) = some (.d .none, M ++ [.lst ((aM n us (k + 1)).map CD.d)]) := by
   simp only [bW, hD, if_pos ll]
   rw [iD, f, if_pos rfl, mT, List.map_append, List.map_singleton]
  have ty : tyB "list" (M ++ [.lst ((aM n us k).map CD.d)]) (.c M.length) = true := by simp only [tyB, hD]; decide
  have e2 : cX "list" bW (aD 7) (aC (aJ cA (aC dQ aI)) aI) (GF2 n x1 (cF n us) g3 g4 g5 g6 M.length (some (I (k : Nat)))) (M ++ [.lst ((aM n us k).map CD.d)]) = some (.d .none, M ++ [.lst ((aM n us (k + 1)).map CD.d)]) := by
   have tf : cA [.d (.list ((comp n us (k : Int)).map .int))] (M ++ [.lst ((aM n us k).map CD.d)]) = some (.d (qK n us (k : Int)), M ++ [.lst ((aM n us k).map CD.d)]) := rfl
   simp only [cX, aD, aC, aI, aJ, List.getElem?_cons_zero, List.getElem?_cons_succ, Option.bind_some, ty, if_true, cp, tf, ap]
  simp only [cG, sIf, gB, e1, f, Option.bind_some, asB, if_true, kK, e2]
theorem sU {n : Nat} {us : List Tie} {x1 : CD} {g3 g4 g5 g6 : Option CD} {M : Sto} (n40 : n <= 40) : ∀ (m k : Nat) (g8 : Option CD), k + m = n ->
 ∃ g8', eE (hName 8) cG (cS (k : Int) m) (GF2 n x1 (cF n us) g3 g4 g5 g6 M.length g8) (M ++ [.lst ((aM n us k).map CD.d)]) = some (.nx (GF2 n x1 (cF n us) g3 g4 g5 g6 M.length g8'), M ++ [.lst ((aM n us n).map CD.d)])
 | 0, k, g8, e => by
  have : k = n := by omega
  subst this
  exact ⟨g8, rfl⟩
 | m + 1, k, g8, e => by
  have t := CI (us := us) (x1 := x1) (g3 := g3) (g4 := g4) (g5 := g5) (g6 := g6) (M := M) n40 (show k < n by omega)
  obtain ⟨a8, h⟩ := sU (us := us) (x1 := x1) (g3 := g3) (g4 := g4) (g5 := g5) (g6 := g6) (M := M) n40 m (k + 1) (some (I (k : Nat))) (by omega)
  refine ⟨a8, ?_⟩
  rw [<- h, jH, show ((k + 1 : Nat) : Int) = (k : Int) + 1 from rfl]
  conv => lhs; unfold eE
  rw [show hName 8 (I (k : Int)) (GF2 n x1 (cF n us) g3 g4 g5 g6 M.length g8) (M ++ [.lst ((aM n us k).map CD.d)]) = some (GF2 n x1 (cF n us) g3 g4 g5 g6 M.length (some (I (k : Int))), M ++ [.lst ((aM n us k).map CD.d)]) from rfl, Option.bind_some]
  dsimp only
  rw [t, Option.bind_some]
theorem RP {J : Int} {γ : Ga} {M : Sto} (sm : bO J = true) (hl : J.toNat <= sizeLine) : qN false (aC (aD 0) aI) (some (I J) :: γ) M = some (.d (.list (BS 0 J.toNat)), M) := by
 have h : bO J = true /\ J.toNat <= sizeLine := ⟨sm, hl⟩
 unfold qN
 rw [show aC (aD 0) aI (some (I J) :: γ) M = some ([I J], M) from rfl, Option.bind_some]
 dsimp only
 rw [if_pos h, if_neg (by decide)]
theorem NU (n : Nat) : BS 0 n = (zs n).map .int := by
 unfold BS zs
 rw [List.map_map]
 refine List.map_congr_left fun k _ => ?_
 show PyData.int (0 + (k : Nat)) = PyData.int (Int.ofNat k)
 rw [Int.zero_add]
 rfl
theorem tX {n : Nat} {us : List Tie} {M : Sto} (n40 : n <= 40) (ok : ∀ t ∈ us, Inn n t.i /\ Inn n t.j) :
 ∃ L, cL [I n, .d (.list (aN us))] M = some (.d (.tuple (aM n us n)), M ++ L) := by
 have sm : bO (n : Int) = true := iY (by omega) (by omega)
 have h0 := RP (J := (n : Int)) (γ := [some (.d (.list (aN us))), none, none, none, none, none, none, none]) (M := M) sm (sz (by omega))
 rw [Int.toNat_natCast, NU] at h0
 obtain ⟨a3, a4, a5, a6, l1⟩ := vR (x0 := I n) (x1 := .d (.list (aN us))) (M := M) n40 us (zs n) none none none none (kW n) ok
 rw [<- show cF n us = us.foldl cY (zs n) from rfl] at l1
 have it : bZ (aD 1) (GL (I n) (.d (.list (aN us))) (zs n) none none none none) M = some ((aN us).map .d, M) := rfl
 have nf : mC aI (GL (I n) (.d (.list (aN us))) (cF n us) a3 a4 a5 a6) M = some (.c M.length, M ++ [.lst ((aM n us 0).map CD.d)]) := by
  show (if ([] : List CD).length <= sizeLine then some (CD.c M.length, M ++ [Cell.lst []]) else none) = _
  rw [if_pos (show ([] : List CD).length <= sizeLine from Nat.zero_le _)]
  rfl
 have r0 : cZ (aC (aD 0) aI) (GF2 n (.d (.list (aN us))) (cF n us) a3 a4 a5 a6 M.length none) (M ++ [.lst ((aM n us 0).map CD.d)]) = some (cS 0 n, M ++ [.lst ((aM n us 0).map CD.d)]) := oN sm
 obtain ⟨a8, l2⟩ := sU (us := us) (x1 := .d (.list (aN us))) (g3 := a3) (g4 := a4) (g5 := a5) (g6 := a6) (M := M) n40 n 0 none (by omega)
 rw [show ((0 : Nat) : Int) = 0 from rfl] at l2
 have hD : (M ++ [Cell.lst ((aM n us n).map CD.d)])[M.length]? = some (.lst ((aM n us n).map CD.d)) := mH
 have tf : cA [.c M.length] (M ++ [.lst ((aM n us n).map CD.d)]) = some (.d (.tuple (aM n us n)), M ++ [.lst ((aM n us n).map CD.d)]) := by
  simp only [cA, hD, jF, Option.bind_some]
 have e2 : aJ cA (aC (aD 7) aI) (GF2 n (.d (.list (aN us))) (cF n us) a3 a4 a5 a6 M.length a8) (M ++ [.lst ((aM n us n).map CD.d)]) = some (.d (.tuple (aM n us n)), M ++ [.lst ((aM n us n).map CD.d)]) := by
  unfold aJ
  rw [show aC (aD 7) aI (GF2 n (.d (.list (aN us))) (cF n us) a3 a4 a5 a6 M.length a8) (M ++ [.lst ((aM n us n).map CD.d)]) = some ([.c M.length], M ++ [.lst ((aM n us n).map CD.d)]) from rfl, Option.bind_some]
  exact tf
 refine ⟨[.lst ((aM n us n).map CD.d)], BH rfl ?_⟩
 unfold gL
 simp only [List.map_cons, List.map_nil, List.length_cons, List.length_nil, Nat.reduceAdd, Nat.reduceSub, List.replicate_succ, List.replicate_zero, List.cons_append, List.nil_append]
 rw [dF (eS h0)]
 simp only [List.set_cons_succ, List.set_cons_zero]
 rw [dF ((uN it).trans l1)]
 rw [dF (eS nf)]
 simp only [List.set_cons_succ, List.set_cons_zero]
 rw [dF ((uN r0).trans l2)]
 unfold cO
 rw [e2]
 rfl
theorem dP {f : FN} {a : AF} {γ : Ga} {M M' : Sto} {xs : List CD} (h : a γ M = some (xs, M')) : aJ f a γ M = f xs M' := by
 unfold aJ
 rw [h]
 rfl
theorem gP {f g : EF} {γ : Ga} {M M1 M2 : Sto} {x y : CD} (h : f γ M = some (x, M1)) (k : g γ M1 = some (y, M2)) : aC f (aC g aI) γ M = some ([x, y], M2) := by
 unfold aC
 rw [h, Option.bind_some]
 dsimp only
 rw [k]
 rfl
theorem uQ {f : EF} {γ : Ga} {M M1 : Sto} {x : CD} (h : f γ M = some (x, M1)) : aC f aI γ M = some ([x], M1) := by
 unfold aC
 rw [h]
 rfl
theorem pM {M : Sto} : ∀ (ts : List Tie) (s1 s2 s3 : Option CD), lcF (gO 3 (aX (hName 0) (aX (hName 1) (aX (hName 2) gM)))) fS (fE (aC (aD 0) (aC (aD 1) aI))) ((aN ts).map .d) [s1, s2, s3] M = some ((ts.map prP).map .d, M)
 | [], _, _, _ => rfl
 | t :: ts, s1, s2, s3 => by
  have ih := pM (M := M) ts (some (I t.i)) (some (I t.j)) (some (.d (.tuple [.int t.a, .int t.b])))
  have l2 : (2 : Nat) <= sizeLine := sz (by decide)
  show lcF _ _ _ (.d (.tuple (f2 t)) :: (aN ts).map .d) _ _ = _
  unfold lcF
  rw [show gO 3 (aX (hName 0) (aX (hName 1) (aX (hName 2) gM))) (.d (.tuple (f2 t))) [s1, s2, s3] M = some ([some (I t.i), some (I t.j), some (.d (.tuple [.int t.a, .int t.b]))], M) from rfl, Option.bind_some]
  have e : fE (aC (aD 0) (aC (aD 1) aI)) [some (I t.i), some (I t.j), some (.d (.tuple [.int t.a, .int t.b]))] M = some (.d (prP t), M) := by
   unfold fE
   rw [show aC (aD 0) (aC (aD 1) aI) [some (I t.i), some (I t.j), some (.d (.tuple [.int t.a, .int t.b]))] M = some ([I t.i, I t.j], M) from rfl, Option.bind_some]
   dsimp only
   rw [show iM [I t.i, I t.j] = some [.int t.i, .int t.j] from rfl, Option.bind_some, if_pos (show [PyData.int t.i, PyData.int t.j].length <= sizeLine from l2)]
   rfl
  dsimp only
  rw [show fS [some (I t.i), some (I t.j), some (.d (.tuple [.int t.a, .int t.b]))] M = some (true, M) from rfl, Option.bind_some]
  dsimp only
  rw [if_pos rfl, e, Option.bind_some]
  dsimp only
  rw [ih]
  rfl
theorem FL {n : Nat} {us : List Tie} (ok : Ok (n : Int) us) : ∀ t ∈ us, Inn n t.i /\ Inn n t.j := fun t ht => by
 obtain ⟨_, h1, h2, h3⟩ := ok.1 t ht
 exact ⟨⟨h1, by omega⟩, ⟨by omega, h3⟩⟩
theorem IG {n : Nat} {us vs : List Tie} {M : Sto} {w : Nat} (n40 : n <= 40) (ok : Ok (n : Int) us) (pm : vs.Perm us) (hw : M[w]? = some (LS w (n : Int) vs)) :
 ∃ L, gV [.c w] M = some (.d (.tuple (aM n us n)), M ++ L) := by
 have ho : objOf "Web" M (.c w) = some (w, ([("many", I n), ("ties", .d (.tuple (cN vs))), ("weights", .c (w + 2))] : List (Str × CD))) := by
  unfold LS at hw
  simp only [objOf, hw, if_true]
 have f1 : lD "Web" "many" (aD 0) [some (.c w)] M = some (I n, M) := by
  unfold lD
  rw [show aD 0 [some (.c w)] M = some (.c w, M) from rfl, Option.bind_some]
  dsimp only
  rw [ho]
  rfl
 have f2' : lD "Web" "ties" (aD 0) [some (.c w)] M = some (.d (.tuple (cN vs)), M) := by
  unfold lD
  rw [show aD 0 [some (.c w)] M = some (.c w, M) from rfl, Option.bind_some]
  dsimp only
  rw [ho]
  rfl
 have it : bZ (lD "Web" "ties" (aD 0)) [some (.c w)] M = some ((aN (vs.filter big)).map .d, M) := by
  unfold bZ
  rw [f2']
  rfl
 have lv : vs.length < 64 := by rw [pm.length_eq]; exact ok.2.2
 have lf : (vs.filter big).length < 64 := Nat.lt_of_le_of_lt (List.length_filter_le ..) lv
 have cp : iB [some (.c w)] M = some (.d (.list ((vs.filter big).map prP)), M) := by
  unfold iB
  exact mF it (sz (by rw [List.length_map, fI]; omega)) (pM (vs.filter big) none none none) (sz (by rw [List.length_map]; omega))
 have sub : ∀ t, t ∈ vs.filter big ↔ t ∈ us /\ t.a > 0 := fun t => by
  rw [List.mem_filter, pm.mem_iff]
  unfold big
  rw [decide_eq_true_eq]
 obtain ⟨L, h⟩ := wO (M := M) n40 lf (FL ok) sub
 refine ⟨L, BH rfl ?_⟩
 unfold qE
 show cO (aJ gF (aC (lD "Web" "many" (aD 0)) (aC iB aI))) [some (.c w)] M = _
 unfold cO
 rw [dP (gP f1 cp), h]
 rfl
theorem DM {ds : List PyData} (h : ∀ d ∈ ds, oks d = true) : iG ds = true := by
 induction ds with
 | nil => rfl
 | cons d ds ih =>
  show (oks d && iG ds) = true
  rw [h d List.mem_cons_self, ih fun e he => h e (List.mem_cons_of_mem _ he)]
  rfl
theorem xO {w k : Nat} : ∀ {ds : List PyData}, (∀ d ∈ ds, wt d <= w) -> ds.length <= k -> kO ds <= k * (w + 2)
 | [], _, _ => Nat.zero_le _
 | d :: ds, h, hl => by
  cases k with
  | zero => simp at hl
  | succ k =>
   have h1 := h d List.mem_cons_self
   have h2 := xO (w := w) (k := k) (fun e he => h e (List.mem_cons_of_mem _ he)) (by simpa using hl)
   show wt d + 2 + kO ds <= _
   rw [Nat.succ_mul]
   omega
theorem nQ {m : Nat} : ∀ {ds : List PyData}, (∀ d ∈ ds, d.depth <= m) -> PyData.depthAll ds <= m
 | [], _ => Nat.zero_le _
 | d :: ds, h => by
  show max d.depth (PyData.depthAll ds) <= m
  exact Nat.max_le.mpr ⟨h d List.mem_cons_self, nQ fun e he => h e (List.mem_cons_of_mem _ he)⟩
theorem Fit.tuple {w m k : Nat} {ds : List PyData} (h : ∀ d ∈ ds, Fit w m d) (hl : ds.length <= k) : Fit (k * (w + 2) + 3) (m + 1) (.tuple ds) :=
 ⟨DM fun d hd => (h d hd).ok, Nat.add_le_add_right (xO (fun d hd => (h d hd).wt) hl) 3, Nat.add_le_add_right (nQ fun d hd => (h d hd).dp) 1⟩
theorem Fit.int {i : Int} (h : i.natAbs < 2 ^ 1900) : Fit 2000 0 (.int i) := ⟨decide_eq_true h, Nat.le_refl _, Nat.le_refl _⟩
theorem DD {i : Int} (h : i.natAbs < 2 ^ 200) : i.natAbs < 2 ^ 1900 := Nat.lt_of_lt_of_le h (Nat.pow_le_pow_right (by decide) (by decide))
theorem ES {n : Nat} {us : List Tie} (n40 : n <= 40) : Fit 3300000 2 (.tuple (aM n us n)) := by
 have h : ∀ d ∈ aM n us n, Fit 80083 1 d := fun d hd => by
  obtain ⟨p, _, rfl⟩ := List.mem_map.mp hd
  have := Fit.tuple (w := 2000) (m := 0) (k := 40) (ds := (comp n us p).map .int) (fun d hd => by
   obtain ⟨q, hq, rfl⟩ := List.mem_map.mp hd
   refine Fit.int (DD ?_)
   have := (comp_mem.mp hq).1
   have : q.natAbs < 64 := by omega
   exact Nat.lt_of_lt_of_le this (by decide)) (by rw [List.length_map]; exact Nat.le_trans (nD tR fun x hx => (comp_mem.mp hx).1) n40)
  exact this
 have := Fit.tuple (w := 80083) (m := 1) (k := 40) h (Nat.le_trans (mK n) n40)
 exact this.mono (by decide) (by decide)
theorem xQ {n : Nat} {us : List Tie} (n40 : n <= 40) (M : Sto) : iN [.d (.tuple (aM n us n))] M = some (.d (.str (PyData.shown (.tuple (aM n us n)))), M) := by
 rw [NX]
 exact FZ (ES n40) (by rw [sizeLine_eq]; decide)
noncomputable abbrev eL (fa : EF) : EF := aJ iN (aC (aJ gV (aC (nX "Web" cD (aC fa (aC (aJ kL (aC (aD 4) aI)) aI))) aI)) aI)
noncomputable abbrev eR (fa : EF) : EF := aJ iN (aC (aJ cL (aC fa (aC (aD 4) aI))) aI)
section
variable {n : Nat} {us : List Tie} {γ : Ga} {fa : EF}
theorem LD (n1 : 1 <= n) (n40 : n <= 40) (ok : Ok (n : Int) us) (hf : ∀ N, fa γ N = some (I n, N)) (h4 : ∀ N, aD 4 γ N = some (.d (.list (aN us)), N)) (M : Sto) :
 ∃ L, eL fa γ M = some (.d (.str (PyData.shown (.tuple (aM n us n)))), M ++ L) := by
 obtain ⟨vs, pm, hi⟩ := LP (M := M) ok (by omega) (by omega)
 have hw : (M ++ yM M.length (n : Int) us vs)[M.length]? = some (LS M.length (n : Int) vs) := by
  rw [List.getElem?_append_right (Nat.le_refl _), Nat.sub_self]; rfl
 obtain ⟨L, hp⟩ := IG (M := M ++ yM M.length (n : Int) us vs) n40 ok pm hw
 have a4 : aJ kL (aC (aD 4) aI) γ M = some (.d (.list (aN us)), M) := by
  rw [dP (uQ (h4 M))]
  rfl
 have mk : nX "Web" cD (aC fa (aC (aJ kL (aC (aD 4) aI)) aI)) γ M = some (.c M.length, M ++ yM M.length (n : Int) us vs) := by
  unfold nX
  rw [gP (hf M) a4, Option.bind_some]
  dsimp only
  rw [hi, Option.bind_some]
  rfl
 refine ⟨yM M.length (n : Int) us vs ++ L, ?_⟩
 have pc : aJ gV (aC (nX "Web" cD (aC fa (aC (aJ kL (aC (aD 4) aI)) aI))) aI) γ M = some (.d (.tuple (aM n us n)), M ++ yM M.length (n : Int) us vs ++ L) := by
  rw [dP (uQ mk), hp]
 unfold eL
 rw [dP (uQ pc), xQ n40, List.append_assoc]
theorem EN (n40 : n <= 40) (ok : Ok (n : Int) us) (hf : ∀ N, fa γ N = some (I n, N)) (h4 : ∀ N, aD 4 γ N = some (.d (.list (aN us)), N)) (M : Sto) :
 ∃ L, eR fa γ M = some (.d (.str (PyData.shown (.tuple (aM n us n)))), M ++ L) := by
 obtain ⟨L, hj⟩ := tX (M := M) n40 (FL ok)
 refine ⟨L, ?_⟩
 have pc : aJ cL (aC fa (aC (aD 4) aI)) γ M = some (.d (.tuple (aM n us n)), M ++ L) := by
  rw [dP (gP (hf M) (h4 M)), hj]
 unfold eR
 rw [dP (uQ pc), xQ n40]
theorem aAb {b : Bool} {s : Str} {M : Sto} : eqX b (.d (.str s)) (.d (.str s)) M = some (B (!b), M) := by
 have : eqS b (.d (.str s)) (.d (.str s)) M = some (B (!b), M) := by cases b <;> simp [eqS]
 unfold eqX xH
 rw [this]
theorem both (b : Bool) (n1 : 1 <= n) (n40 : n <= 40) (ok : Ok (n : Int) us) (hf : ∀ N, fa γ N = some (I n, N)) (h4 : ∀ N, aD 4 γ N = some (.d (.list (aN us)), N)) (M : Sto) :
 ∃ L, fOp (eqX b) (eL fa) (eR fa) γ M = some (B (!b), M ++ L) := by
 obtain ⟨L1, e1⟩ := LD n1 n40 ok hf h4 M
 obtain ⟨L2, e2⟩ := EN n40 ok hf h4 (M ++ L1)
 refine ⟨L1 ++ L2, ?_⟩
 unfold fOp
 rw [e1, Option.bind_some]
 dsimp only
 rw [e2, Option.bind_some]
 dsimp only
 rw [aAb, List.append_assoc]
end
abbrev Sc (ns : List Int) : CD := .d (.list (ns.map .int))
theorem YI {ns : List Int} {k : Int} {g2 g3 g4 g5 g6 : Option CD} {M : Sto} (k0 : 0 <= k) (k1 : k < 1000) :
 ∃ γ' M', oO [some (Sc ns), some (I k), g2, g3, g4, g5, g6] M = some (.nx γ', M') /\ ∃ a2 a3 a4, γ' = [some (Sc ns), some (I k), a2, a3, a4, g5, g6] := by
 obtain ⟨M1, e1, st1⟩ := vH (ns := ns) (M := M) k0 k1
 obtain ⟨r, M2, e2, r0, r9, nx⟩ := fQ st1 (m := 9) (by decide) (by decide)
 have st2 := nx.stm st1
 obtain ⟨us, M3, e3, st3, ok, _⟩ := RQ (n := 1 + r) st2 (by omega) (by omega)
 have en : ((1 + r).toNat : Int) = 1 + r := by omega
 have ok' : Ok (((1 + r).toNat : Nat) : Int) us := by rw [en]; exact ok
 obtain ⟨L, bo⟩ := both (n := (1 + r).toNat) (us := us) (γ := [some (Sc ns), some (I k), some (.c M.length), some (I (1 + r)), some (.d (.list (aN us))), g5, g6]) (fa := aD 3) true (by omega) (by omega) ok'
  (fun N => by rw [en]; rfl) (fun N => rfl) M3
 refine ⟨[some (Sc ns), some (I k), some (.c M.length), some (I (1 + r)), some (.d (.list (aN us))), g5, g6], M3 ++ L, ?_, _, _, _, rfl⟩
 have c1 : aJ bL (aC (aD 0) (aC (aD 1) aI)) [some (Sc ns), some (I k), g2, g3, g4, g5, g6] M = some (.c M.length, M1) := by
  rw [dP (gP (M1 := M) (M2 := M) (x := Sc ns) (y := I k) rfl rfl), e1]
 have c2 : fOp gS (fC (.int 1)) (aJ aS (aC (aD 2) (aC (fC (.int 9)) aI))) [some (Sc ns), some (I k), some (.c M.length), g3, g4, g5, g6] M1 = some (I (1 + r), M2) := by
  have t : aJ aS (aC (aD 2) (aC (fC (.int 9)) aI)) [some (Sc ns), some (I k), some (.c M.length), g3, g4, g5, g6] M1 = some (I r, M2) := by
   rw [dP (gP (M1 := M1) (M2 := M1) (x := .c M.length) (y := I 9) rfl rfl), e2]
  unfold fOp
  rw [show fC (.int 1) [some (Sc ns), some (I k), some (.c M.length), g3, g4, g5, g6] M1 = some (I 1, M1) from rfl, Option.bind_some]
  dsimp only
  rw [t, Option.bind_some]
  exact nO
 have c3 : aJ eO (aC (aD 2) (aC (aD 3) aI)) [some (Sc ns), some (I k), some (.c M.length), some (I (1 + r)), g4, g5, g6] M2 = some (.d (.list (aN us)), M3) := by
  rw [dP (gP (M1 := M2) (M2 := M2) (x := .c M.length) (y := I (1 + r)) rfl rfl), e3]
 unfold oO
 rw [dF (eS c1)]
 simp only [List.set_cons_succ, List.set_cons_zero]
 rw [dF (eS c2)]
 simp only [List.set_cons_succ, List.set_cons_zero]
 rw [dF (eS c3)]
 simp only [List.set_cons_succ, List.set_cons_zero]
 unfold sIf gB
 rw [bo, Option.bind_some]
 rfl
def ringT : List Tie := ((List.range 39).map fun (k : Nat) => (⟨(k : Int), (k : Int) + 1, 1, 2⟩ : Tie)) ++ [⟨0, 39, 1, 2⟩]
theorem LY {us : List Tie} (h : us.Sublist ringT) : Ok 40 us := by
 have o : (∀ t ∈ ringT, fT t.a t.b = true /\ 0 <= t.i /\ t.i < t.j /\ t.j < 40) /\ (ringT.map Tie.key).Nodup /\ ringT.length < 64 := by
  refine ⟨by decide +kernel, by decide +kernel, by decide +kernel⟩
 exact ⟨fun t ht => o.1 t (h.subset ht), (h.map Tie.key).nodup o.2.1, Nat.lt_of_le_of_lt h.length_le o.2.2⟩
def rs (k : Int) : Nat -> List Tie
 | 0 => []
 | m + 1 => ⟨k, k + 1, 1, 2⟩ :: rs (k + 1) m
theorem rL {M : Sto} : ∀ (m : Nat) (k : Int) (g : Option CD), lcF (hName 0) fS (fE (aC (aD 0) (aC (fOp gS (aD 0) (fC (.int 1))) (aC tY aI)))) (cS k m) [g] M = some ((aN (rs k m)).map .d, M)
 | 0, k, g => rfl
 | m + 1, k, g => by
  have ih := rL (M := M) m (k + 1) (some (I k))
  have l3 : (3 : Nat) <= sizeLine := sz (by decide)
  rw [jH]
  unfold lcF
  simp! [fS, nO, HA, if_pos l3, ih]
  rfl
theorem KH : rs 0 39 ++ [⟨0, 39, 1, 2⟩] = ringT := by decide +kernel
theorem UN {γ : Ga} {M : Sto} : fOp gS oP tP γ M = some (.d (.list (aN ringT)), M) := by
 have r0 : cZ (aC (fC (.int 39)) aI) γ M = some (cS 0 39, M) := by
  have sm : bO 39 = true := by decide
  simp! [cZ, sm]
  rfl
 have c0 : oP γ M = some (.d (.list (aN (rs 0 39))), M) := by
  unfold oP
  exact mF r0 (sz (by rw [tG]; decide)) (rL 39 0 none) (sz (by decide +kernel))
 unfold fOp
 rw [c0, Option.bind_some]
 dsimp only
 rw [GN, Option.bind_some]
 dsimp only
 rw [xW (sz (by decide +kernel)), <- KH]
 rfl
def gN (p : Nat -> Bool) : Nat -> List Tie -> List Tie
 | _, [] => []
 | k, t :: l => if p k = true then t :: gN p (k + 1) l else gN p (k + 1) l
theorem oR (p : Nat -> Bool) : ∀ (k : Nat) (l : List Tie), (gN p k l).Sublist l
 | _, [] => List.Sublist.slnil
 | k, t :: l => by
  unfold gN
  split
  · exact (oR p (k + 1) l).cons₂ t
  · exact (oR p (k + 1) l).cons t
def nU (a b : Int) (k : Nat) : Bool := !([PyData.int a, PyData.int b].any fun d => PyData.eqv d (.int (k : Int)))
theorem xK {a b : Int} {M : Sto} : ∀ (l : List Tie) (k : Nat) (g1 g2 : Option CD), lcF (gO 2 (aX (hName 1) (aX (hName 2) gM))) (gB (fOp (inD true) (aD 1) (aD 0))) (aD 2) (fG k (aN l)) [some (.d (.list [.int a, .int b])), g1, g2] M = some ((aN (gN (nU a b) k l)).map .d, M)
 | [], k, g1, g2 => rfl
 | t :: l, k, g1, g2 => by
  have ih := xK (a := a) (b := b) (M := M) l (k + 1) (some (I (k : Nat))) (some (.d (.tuple (f2 t))))
  have ind : inD true (I (k : Nat)) (.d (.list [.int a, .int b])) M = some (B (nU a b k), M) := rfl
  show lcF _ _ _ (.d (.tuple [.int (k : Nat), .tuple (f2 t)]) :: fG (k + 1) (aN l)) _ _ = _
  unfold lcF gN
  cases c : nU a b k with
  | true => simp! [ind, c, ih]; rfl
  | false => simp! [ind, c, ih]
theorem ZA {a b : Int} {ns : List Int} {g1 g2 g3 g4 : Option CD} {M : Sto} : uM [some (Sc ns), g1, g2, g3, g4, some (.d (.list (aN ringT))), some (.d (.list [.int a, .int b]))] M = some (.d (.list (aN (gN (nU a b) 0 ringT))), M) := by
 have it : qP (aC (aD 5) aI) [some (Sc ns), g1, g2, g3, g4, some (.d (.list (aN ringT))), some (.d (.list [.int a, .int b]))] M = some (fG 0 (aN ringT), M) := rfl
 unfold uM
 have ls := (oR (nU a b) 0 ringT).length_le
 have lr : ringT.length = 40 := by decide +kernel
 exact mF it (sz (by unfold fG; rw [List.length_map, List.length_zipIdx, fI, lr]; decide)) (xK ringT 0 none none) (sz (by rw [fI]; omega))
theorem wY {g : GF} {b : SF} (Inv : Ga -> Sto -> Prop) : ∀ xs : List CD, (∀ x ∈ xs, ∀ γ M, Inv γ M -> ∃ γ1 M1 γ' M', g x γ M = some (γ1, M1) /\ b γ1 M1 = some (.nx γ', M') /\ Inv γ' M') -> ∀ γ M, Inv γ M -> ∃ γ' M', eE g b xs γ M = some (.nx γ', M') /\ Inv γ' M'
 | [], _, γ, M, h => ⟨γ, M, rfl, h⟩
 | x :: xs, hs, γ, M, h => by
  obtain ⟨γ1, M1, γ2, M2, e1, e2, h2⟩ := hs x List.mem_cons_self γ M h
  obtain ⟨γ', M', e3, h3⟩ := wY Inv xs (fun y hy => hs y (List.mem_cons_of_mem _ hy)) γ2 M2 h2
  refine ⟨γ', M', ?_, h3⟩
  unfold eE
  rw [e1, Option.bind_some]
  dsimp only
  rw [e2, Option.bind_some]
  exact e3
theorem NN {lo : Int} {n : Nat} {x : CD} (h : x ∈ cS lo n) : ∃ j : Nat, j < n /\ x = I (lo + j) := by
 unfold cS at h
 obtain ⟨j, hj, rfl⟩ := List.mem_map.mp h
 exact ⟨j, List.mem_range.mp hj, rfl⟩
theorem main (ns : List Int) (hl : ns.length <= 63) : ∃ M', F_law [.d (.list (ns.map .int))] [] = some (.d (.bool true), M') := by
 obtain ⟨γ1, M1, e1, a1, a2, a3, a4, rfl⟩ := wY (g := hName 1) (b := oO) (fun γ _ => ∃ a1 a2 a3 a4, γ = [some (Sc ns), a1, a2, a3, a4, none, none]) (cS 0 6) (fun x hx γ N hI => by
  obtain ⟨a1, a2, a3, a4, rfl⟩ := hI
  obtain ⟨j, hj, rfl⟩ := NN hx
  obtain ⟨γ', M', e, b2, b3, b4, rfl⟩ := YI (ns := ns) (k := 0 + (j : Int)) (g2 := a2) (g3 := a3) (g4 := a4) (g5 := none) (g6 := none) (M := N) (by omega) (by omega)
  exact ⟨_, N, _, M', rfl, e, _, _, _, _, rfl⟩) [some (Sc ns), none, none, none, none, none, none] [] ⟨_, _, _, _, rfl⟩
 have r0 : cZ (aC (fC (.int 6)) aI) [some (Sc ns), none, none, none, none, none, none] [] = some (cS 0 6, []) := by
  have sm : bO 6 = true := by decide
  simp! [cZ, sm]
  rfl
 obtain ⟨M2, e2, st⟩ := vH (ns := ns) (k := 6) (M := M1) (by decide) (by decide)
 obtain ⟨x, M3, e3, _, _, nx⟩ := fQ st (m := 40) (by decide) (by decide)
 obtain ⟨y, M4, e4, _, _, _⟩ := fQ (nx.stm st) (m := 40) (by decide) (by decide)
 have c2 : aJ bL (aC (aD 0) (aC (fC (.int 6)) aI)) [some (Sc ns), a1, a2, a3, a4, none, none] M1 = some (.c M1.length, M2) := by
  rw [dP (gP (M1 := M1) (M2 := M1) (x := Sc ns) (y := I 6) rfl rfl), e2]
 have c4 : nB (aC (aJ aS (aC (aD 2) (aC (fC (.int 40)) aI))) (aC (aJ aS (aC (aD 2) (aC (fC (.int 40)) aI))) aI)) [some (Sc ns), a1, some (.c M1.length), a3, a4, some (.d (.list (aN ringT))), none] M2 = some (.d (.list [.int x, .int y]), M4) := by
  have t1 : aJ aS (aC (aD 2) (aC (fC (.int 40)) aI)) [some (Sc ns), a1, some (.c M1.length), a3, a4, some (.d (.list (aN ringT))), none] M2 = some (I x, M3) := by
   rw [dP (gP (M1 := M2) (M2 := M2) (x := .c M1.length) (y := I 40) rfl rfl), e3]
  have t2 : aJ aS (aC (aD 2) (aC (fC (.int 40)) aI)) [some (Sc ns), a1, some (.c M1.length), a3, a4, some (.d (.list (aN ringT))), none] M3 = some (I y, M4) := by
   rw [dP (gP (M1 := M3) (M2 := M3) (x := .c M1.length) (y := I 40) rfl rfl), e4]
  have l2 : [PyData.int x, PyData.int y].length <= sizeLine := sz (show 2 <= 1000 by decide)
  unfold nB
  rw [gP t1 t2, Option.bind_some]
  dsimp only
  rw [show iM [I x, I y] = some [.int x, .int y] from rfl, Option.bind_some, if_pos l2]
 have ok : Ok ((40 : Nat) : Int) (gN (nU x y) 0 ringT) := LY (oR _ _ _)
 obtain ⟨L, bo⟩ := both (n := 40) (us := gN (nU x y) 0 ringT) (γ := [some (Sc ns), a1, some (.c M1.length), a3, some (.d (.list (aN (gN (nU x y) 0 ringT)))), some (.d (.list (aN ringT))), some (.d (.list [.int x, .int y]))]) (fa := fC (.int 40)) false (by decide) (by decide) ok (fun N => rfl) (fun N => rfl) M4
 refine ⟨M4 ++ L, BH rfl ?_⟩
 unfold IS
 simp only [List.map_cons, List.map_nil, List.length_cons, List.length_nil, Nat.reduceAdd, Nat.reduceSub, List.replicate_succ, List.replicate_zero, List.cons_append, List.nil_append]
 rw [dF ((uN r0).trans e1), dF (eS c2)]
 simp only [List.set_cons_succ, List.set_cons_zero]
 rw [dF (eS UN)]
 simp only [List.set_cons_succ, List.set_cons_zero]
 rw [dF (eS c4)]
 simp only [List.set_cons_succ, List.set_cons_zero]
 rw [dF (eS ZA)]
 simp only [List.set_cons_succ, List.set_cons_zero]
 unfold cO
 rw [bo]
 rfl
end Q8
end
open PySem PySem.W PyProof.Rows
set_option maxRecDepth 100000 in
set_option maxHeartbeats 0 in
theorem PySem.Challenge.cw_cutstree_k08_pieces_holds : PySem.Challenge.rw_cutstree_k08_pieces.Holds := by
 refine Q8.k_top ?_
 k_fill
 refine L2.law_walk (l := PySem.Challenge.rw_cutstree_k08_pieces) (F := Q8.F_law) (k := 10) (p := "_law_script") (by decide +kernel) rfl rfl ⟨fun _ => rfl, by decide, by decide, rfl⟩ (fun w h Y => PySem.W.kIn_of Y) ?T Q8.main
 case T =>
  intro w mg h KX G
  refine Q8.fn_law (K := _) (mg := mg) ?TT
  refine' Q8.txt_mk KX G ?z_bool ?z_enumerate ?z_int ?z_isinstance ?z_len ?z_list ?z_range ?z_repr ?z_sorted ?z_tuple ?u_MOST_ABOVE ?u_BELOW ?u_MOST_PLACES ?a_Web ?cl_Web_pg ?cl_Web_hd ?cl_Web_po ?cl_Web_sa ?na_Web_ties ?na_Web_many ?na_Web_weights ?i_Web__init ?l_Web__init ?c_Web__init ?k_Web__init ?g_Web__init ?mk_Web ?kp_Web ?d__law_stream ?d__law_take ?d__law_pick ?d__law_least ?d__law_weight ?d__law_ties ?d_places_beside ?d_reached_from ?d_joined_by ?d_pieces ?d_is_whole ?d_is_row ?d_common ?d_is_row_of ?d_has_amount_numbers ?d_is_in_parts ?d_is_weight ?d_is_place ?d_are_unlike_places ?d_is_between_places ?d_is_tie ?d_kept_ties ?d__law_joined ?d_law
  (case z_bool => k_is)
  (case z_enumerate => k_is)
  (case z_int => k_is)
  (case z_isinstance => k_is)
  (case z_len => k_is)
  (case z_list => k_is)
  (case z_range => k_is)
  (case z_repr => k_is)
  (case z_sorted => k_is)
  (case z_tuple => k_is)
  (case u_MOST_ABOVE => k_is)
  (case u_BELOW => k_is)
  (case u_MOST_PLACES => k_is)
  (case a_Web => k_is)
  (case cl_Web_pg => kernel_rfl)
  (case cl_Web_hd => kernel_rfl)
  (case cl_Web_po => kernel_rfl)
  (case cl_Web_sa => k_is)
  (case na_Web_ties => k_is)
  (case na_Web_many => k_is)
  (case na_Web_weights => k_is)
  (case i_Web__init => k_is)
  (case l_Web__init => k_is)
  (case c_Web__init => k_is)
  (case k_Web__init => k_is)
  (case g_Web__init => kernel_rfl)
  (case mk_Web => kernel_rfl)
  (case kp_Web => k_is)
  (case d__law_stream => exact L2.def_mk KX G (by k_is) (by k_is) (by k_is) (by k_is))
  (case d__law_take => exact L2.def_mk KX G (by k_is) (by k_is) (by k_is) (by k_is))
  (case d__law_pick => exact L2.def_mk KX G (by k_is) (by k_is) (by k_is) (by k_is))
  (case d__law_least => exact L2.def_mk KX G (by k_is) (by k_is) (by k_is) (by k_is))
  (case d__law_weight => exact L2.def_mk KX G (by k_is) (by k_is) (by k_is) (by k_is))
  (case d__law_ties => exact L2.def_mk KX G (by k_is) (by k_is) (by k_is) (by k_is))
  (case d_places_beside => exact L2.def_mk KX G (by k_is) (by k_is) (by k_is) (by k_is))
  (case d_reached_from => exact L2.def_mk KX G (by k_is) (by k_is) (by k_is) (by k_is))
  (case d_joined_by => exact L2.def_mk KX G (by k_is) (by k_is) (by k_is) (by k_is))
  (case d_pieces => exact L2.def_mk KX G (by k_is) (by k_is) (by k_is) (by k_is))
  (case d_is_whole => exact L2.def_mk KX G (by k_is) (by k_is) (by k_is) (by k_is))
  (case d_is_row => exact L2.def_mk KX G (by k_is) (by k_is) (by k_is) (by k_is))
  (case d_common => exact L2.def_mk KX G (by k_is) (by k_is) (by k_is) (by k_is))
  (case d_is_row_of => exact L2.def_mk KX G (by k_is) (by k_is) (by k_is) (by k_is))
  (case d_has_amount_numbers => exact L2.def_mk KX G (by k_is) (by k_is) (by k_is) (by k_is))
  (case d_is_in_parts => exact L2.def_mk KX G (by k_is) (by k_is) (by k_is) (by k_is))
  (case d_is_weight => exact L2.def_mk KX G (by k_is) (by k_is) (by k_is) (by k_is))
  (case d_is_place => exact L2.def_mk KX G (by k_is) (by k_is) (by k_is) (by k_is))
  (case d_are_unlike_places => exact L2.def_mk KX G (by k_is) (by k_is) (by k_is) (by k_is))
  (case d_is_between_places => exact L2.def_mk KX G (by k_is) (by k_is) (by k_is) (by k_is))
  (case d_is_tie => exact L2.def_mk KX G (by k_is) (by k_is) (by k_is) (by k_is))
  (case d_kept_ties => exact L2.def_mk KX G (by k_is) (by k_is) (by k_is) (by k_is))
  (case d__law_joined => exact L2.def_mk KX G (by k_is) (by k_is) (by k_is) (by k_is))
  (case d_law => exact L2.def_mk KX G (by k_is) (by k_is) (by k_is) (by k_is))