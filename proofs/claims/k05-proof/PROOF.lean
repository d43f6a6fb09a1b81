import PyProof.Rows.All
import Wide.All
import OpenK.AllK
import Wide.FinOn
import Lean
import PyProof.EqAt
import PyProof.EqKinds
import PyProof.TupleCall
import PyProof.ReprLen
import KE.KIsAll
import PyProof.ExcArgsOwn
import PyProof.NsDelKeeps
import KE.KTryMore
import PyProof.InstStoreFacts
import PyProof.ExcInit
import PyProof.ExcClass2
import PyProof.Rows.ListMul
import PyProof.Draws
import PyProof.EnumMake
import PyProof.Rows.EnumRows
import KE.KItemsList
import PyProof.DictCompW
import PyProof.ListRange
import PyProof.ZipIter
import PyProof.AttrMissHeap
import KE.KDictOf
import PySem.Challenge.RW_cutstree_k05_web_refused
set_option Elab.async false
section
set_option maxRecDepth 100000
set_option maxHeartbeats 0
namespace Q5
open PySem
def qv : Program := { PySem.Challenge.rw_cutstree_k05_web_refused.prog with main := { PySem.Challenge.rw_cutstree_k05_web_refused.prog.main with body := (((((PySem.Challenge.rw_cutstree_k05_web_refused.prog.main.body.eraseIdx 26).eraseIdx 21).eraseIdx 14).eraseIdx 7).eraseIdx 0) } }
end Q5
open PySem PySem.W PyProof.Rows
local macro_rules | `(tactic| o_head $H) => `(tactic| (
 refine holds_open (r := PySem.Challenge.rw_cutstree_k05_web_refused.row) (q := Q5.qv) (loose := []) (Xt := fun s => xlAt Q5.qv [] s && recOk (RowW.records (OpenRow.toRowW PySem.Challenge.rw_cutstree_k05_web_refused.row)) s) (XP := XL Q5.qv []) (Yf := Hook.obs $H) (Ya := Hook.val $H) (YP := Hook.says $H) (N := 5404) ?hl (Hook.of $H) (Hook.keeps $H) (fun s e => xl_of s (Bool.and_eq_true_iff.mp e).1) XL.keeps (by rfl) (by rfl) (by rfl) (fun s e => recFacts_of (Bool.and_eq_true_iff.mp e).2) (by rfl) (by first | assumption | decide +kernel) (by decide +kernel) ⟨rfl, rfl, rfl, rfl, rfl, by decide +kernel⟩ ?hw ?hc
 (case hl => intro w; kernel_rfl)))
open_top Q5.k_top for PySem.Challenge.rw_cutstree_k05_web_refused
end
section
set_option Elab.async false
set_option linter.all false
set_option maxRecDepth 100000
namespace L2
open PySem PySem.Spec PyProof.Rows
abbrev Key := Sum Int Str
def uF : Key -> Value -> Bool
 | .inl k, v => Value.isInt k v
 | .inr x, v => Value.isStrOf x v
def aCX (w : World) : Key -> Int
 | .inl k => hashInt k
 | .inr x => hashStr w x
theorem cI : ∀ {k : Key} {v : Value}, uF k v = true -> (∃ i t, k = Sum.inl i /\ v = Value.int i t) \/ (∃ x t, k = Sum.inr x /\ v = Value.str x t)
 | .inl i, v, h => by
  obtain ⟨t, e⟩ := Value.isInt_shape (k := i) (v := v) h
  exact .inl ⟨i, t, rfl, e⟩
 | .inr x, v, h => by
  obtain ⟨t, e⟩ := Value.isStrOf_shape (x := x) (v := v) h
  exact .inr ⟨x, t, rfl, e⟩
theorem FW (i : Int) (t : Tok) : uF (.inl i) (.int i t) = true := by simp [uF, Value.isInt]
theorem FV (x : Str) (t : Tok) : uF (.inr x) (.str x t) = true := by simp [uF, Value.isStrOf]
theorem WI (a b : Int) : decide ((Sum.inl a : Key) = Sum.inl b) = (a == b) := by
 by_cases e : a = b
 · subst e; simp
 · have h : ¬ (Sum.inl a : Key) = Sum.inl b := fun q => e (Sum.inl.inj q)
   rw [decide_eq_false h]
   exact (beq_eq_false_iff_ne.mpr e).symm
theorem ZF (a b : Str) : decide ((Sum.inr a : Key) = Sum.inr b) = decide (a = b) := by
 by_cases e : a = b
 · subst e; simp
 · have h : ¬ (Sum.inr a : Key) = Sum.inr b := fun q => e (Sum.inr.inj q)
   rw [decide_eq_false h, decide_eq_false e]
theorem ZK (a : Int) (b : Str) : decide ((Sum.inl a : Key) = Sum.inr b) = false := decide_eq_false (fun q => nomatch q)
theorem WC (a : Str) (b : Int) : decide ((Sum.inr a : Key) = Sum.inl b) = false := decide_eq_false (fun q => nomatch q)
def cV (prog : Program) (w : World) : PySem.KeyKind prog w Key where
 is := uF
 hash := aCX w
 inj := fun v a b ha hb => by
  rcases cI ha with ⟨i, t, rfl, rfl⟩ | ⟨x, t, rfl, rfl⟩
  · rcases cI hb with ⟨j, u, rfl, e⟩ | ⟨y, u, rfl, e⟩
    · injection e with e1 _; rw [e1]
    · exact nomatch e
  · rcases cI hb with ⟨j, u, rfl, e⟩ | ⟨y, u, rfl, e⟩
    · exact nomatch e
    · injection e with e1 _; rw [e1]
 byValue := fun k v h => by
  rcases cI h with ⟨i, t, rfl, rfl⟩ | ⟨x, t, rfl, rfl⟩ <;> rfl
 pyHash := fun hv h => by
  rcases cI hv with ⟨i, t, rfl, rfl⟩ | ⟨x, t, rfl, rfl⟩
  · exact wpAny_pyHash_int h
  · exact wpAny_pyHash_str h
 eqBool := fun hu hv h => by
  rcases cI hu with ⟨i, t, rfl, rfl⟩ | ⟨x, t, rfl, rfl⟩
  · rcases cI hv with ⟨j, u, rfl, rfl⟩ | ⟨y, u, rfl, rfl⟩
    · rw [WI] at h; exact wpAny_eqBool_int h
    · rw [ZK] at h; exact SeqAt.EqAt.int_str i t y u _ _ _ _ h
  · rcases cI hv with ⟨j, u, rfl, rfl⟩ | ⟨y, u, rfl, rfl⟩
    · rw [WC] at h; exact SeqAt.EqAt.str_int x t j u _ _ _ _ h
    · rw [ZF] at h; exact wpAny_eqBool_str h
 «strs» := fun k x t v h => by
  rcases cI h with ⟨i, u, rfl, e⟩ | ⟨y, u, rfl, e⟩
  · exact nomatch e
  · injection e with e1 _
    subst e1
    cases v <;> rfl
theorem AB (prog : Program) (w : World) (i : Int) (t : Tok) : (cV prog w).is (.inl i) (.int i t) = true := FW i t
theorem zC (prog : Program) (w : World) (x : Str) (t : Tok) : (cV prog w).is (.inr x) (.str x t) = true := FV x t
end L2
namespace L2
open PySem PySem.Spec PyProof.Rows
inductive V where
 | non | bl (b : Bool) | int (i : Int) | str (x : Str) | byt (b : Array UInt8) | flt (b : UInt64) | ref (a : Addr) | ty (n : String)
 deriving DecidableEq
def RelV : V -> Value -> Prop
 | .non, u => u = Value.none
 | .bl b, u => u = Value.bool b
 | .int i, u => ∃ t, u = Value.int i t
 | .str x, u => ∃ t, u = Value.str x t
 | .byt b, u => ∃ t, u = Value.bytes b t
 | .flt b, u => ∃ t, u = Value.float b t
 | .ref a, u => u = Value.ref a
 | .ty n, u => u = Value.type n
abbrev Vals : List V -> List Value -> Prop := Paired RelV
theorem Vals.length {xs : List V} {us : List Value} (r : Vals xs us) : xs.length = us.length := Paired.length r
theorem Vals.get : ∀ {xs : List V} {us : List Value} {i : Nat} {x : V}, Vals xs us -> xs[i]? = some x -> ∃ u, us[i]? = some u /\ RelV x u
 | _, _, _, _, .nil, e => by simp at e
 | _, _, 0, _, .cons r _, e => by simp at e; subst e; exact ⟨_, rfl, r⟩
 | _, _, i + 1, x, .cons _ t, e => by
  obtain ⟨u, h1, h2⟩ := Vals.get (i := i) (x := x) t (by simpa using e)
  exact ⟨u, by simpa using h1, h2⟩
theorem Vals.set {x : V} {u : Value} (r : RelV x u) : ∀ {xs : List V} {us : List Value} (i : Nat), Vals xs us -> Vals (xs.set i x) (us.set i u)
 | _, _, _, .nil => .nil
 | _, _, 0, .cons _ t => .cons r t
 | _, _, i + 1, .cons q t => .cons q (Vals.set r i t)
theorem Vals.append : ∀ {xs ys : List V} {us ws : List Value}, Vals xs us -> Vals ys ws -> Vals (xs ++ ys) (us ++ ws)
 | _, _, _, _, .nil, s => s
 | _, _, _, _, .cons r t, s => .cons r (Vals.append t s)
theorem Vals.take : ∀ {xs : List V} {us : List Value} (n : Nat), Vals xs us -> Vals (xs.take n) (us.take n)
 | _, _, 0, _ => .nil
 | _, _, _ + 1, .nil => .nil
 | _, _, n + 1, .cons r t => .cons r (Vals.take n t)
theorem Vals.drop : ∀ {xs : List V} {us : List Value} (n : Nat), Vals xs us -> Vals (xs.drop n) (us.drop n)
 | _, _, 0, r => r
 | _, _, _ + 1, .nil => .nil
 | _, _, n + 1, .cons _ t => Vals.drop n t
def RelO : Option V -> Option Value -> Prop
 | some v, some u => RelV v u
 | none, none => True
 | _, _ => False
def KV {κ : Type} : List (κ × V) -> List (κ × Value) -> Prop := Paired fun (p : κ × V) (q : κ × Value) => p.1 = q.1 /\ RelV p.2 q.2
def kV : Key -> V
 | .inl i => .int i
 | .inr x => .str x
inductive HO where
 | lst (xs : List V)
 | tup (xs : List V)
 | dK (kvs : List (Key × V)) | dT (kvs : List (List Key × V))
 | set (S : Int -> Bool) (n : Nat)
 | ins (C dx : Addr) (fs : List (Str × V))
 | own (x : Addr)
 | xd (fs : List (Str × V))
 | met (f x : Addr)
 | rng (lo hi : Int)
 | frz (o : Obj) (u : HO)
 | tbl (ps : Array Value)
 | ext (φ : Heap -> Prop)
abbrev Hp := Addr -> Option HO
def upd (H : Hp) (a : Addr) (o : HO) : Hp := fun b => if b = a then some o else H b
theorem aT {H : Hp} {a : Addr} {o : HO} : upd H a o a = some o := by unfold upd; rw [if_pos rfl]
theorem aI {H : Hp} {a b : Addr} {o : HO} (h : b ≠ a) : upd H a o b = H b := by unfold upd; rw [if_neg h]
theorem qL {H : Hp} {a b : Addr} {o u : HO} (h : H a = some o) (h' : H b = some u) (d : o ≠ u) : a ≠ b := by
 intro e; subst e; rw [h] at h'; exact d (Option.some.inj h')
theorem aN {H : Hp} {a b : Addr} {o : HO} (h : H a = some o) (h' : H b = none) : a ≠ b := by
 intro e; subst e; rw [h] at h'; cases h'
section
variable (P : Program) (w : World)
def ObjOk (H : Hp) (h : Heap) (a : Addr) : HO -> Prop
 | .lst xs => xs.length <= sizeLine /\ ∃ (its : List Value) (n : Nat), Vals xs its /\ h.get? a = some { cls := .type "list", data := .seq its.toArray n }
 | .tup xs => xs.length <= sizeLine /\ ∃ its : List Value, Vals xs its /\ IsTup h a its.toArray
 | .dK kvs => kvs.length <= sizeLine /\ (a == sysModules) = false /\ ∃ vs, KV kvs vs /\ h.DictOf (cV P w) a vs
 | .dT kvs => kvs.length <= sizeLine /\ (a == sysModules) = false /\ ∃ xs : List (List Key × Addr × Value),
  Paired (fun (p : List Key × V) (q : List Key × Addr × Value) => p.1 = q.1 /\ H q.2.1 = some (.tup (p.1.map kV)) /\ RelV p.2 q.2.2) kvs xs /\
  ∃ o es ep, h.get? a = some o /\ o.ExactDict /\ o.data = .dict es ep /\ es.toList = xs.map (entryOfKey (tupleKind (cV P w))) /\ (xs.map (·.1)).Nodup
 | .set S n => h.SetOf (intKind P w) a S n
 | .ins C dx fs => H dx = some (.own a) /\ fs.length <= 1000 /\ dx ≠ a /\ h.get? a = some (PySem.W.instObj C dx) /\
  ∃ mA, h.Ns1 dx mA /\ (∀ f, RelO (fs.lookup f) (mA f)) /\ PySem.Within mA (fs.map (·.1))
 | .own _ => ∃ o, h.get? a = some o
 | .xd fs => ∃ mA, h.Ns1 a mA /\ ∀ f, RelO (fs.lookup f) (mA f)
 | .rng lo hi => ∃ t u v, h.get? a = some { cls := .type "range", data := .fields #[.int lo t, .int hi u, .int 1 v] }
 | .frz o u => h.get? a = some o /\ ObjOk H h a u
 | .tbl ps => h.get? a = some { cls := .none, data := .fields ps }
 | .met f x => h.get? a = some (PySem.W.methodObj (.ref f) (.ref x))
 | .ext φ => φ h /\ (∃ o, h.get? a = some o) /\ ∀ h1 h2 : Heap, φ h1 -> (∀ o, h1.get? a = some o -> h2.get? a = some o) -> φ h2
def HOk (H : Hp) (h : Heap) : Prop := ∀ a o, H a = some o -> ObjOk P w H h a o
end
section
variable {P : Program} {w : World} {H H' : Hp} {h h' : Heap} {a : Addr} {o : HO}
theorem ObjOk.lt (x : ObjOk P w H h a o) : a < h.objs.size := by
 cases o with
 | lst xs => obtain ⟨_, _, _, _, e⟩ := x; exact Heap.lt_size e
 | tup xs => obtain ⟨_, _, _, p⟩ := x; exact p.lt
 | dK kvs => obtain ⟨_, _, _, _, o, _, _, e, _⟩ := x; exact Heap.lt_size e
 | dT kvs => obtain ⟨_, _, _, _, o, _, _, e, _⟩ := x; exact Heap.lt_size e
 | set S n => obtain ⟨o, _, _, _, e, _⟩ := x; exact Heap.lt_size e
 | ins C dx fs => obtain ⟨_, _, _, e, _⟩ := x; exact Heap.lt_size e
 | own y => obtain ⟨_, e⟩ := x; exact Heap.lt_size e
 | xd fs => obtain ⟨_, ⟨_, _, _, e, _⟩, _⟩ := x; exact Heap.lt_size e
 | rng lo hi => obtain ⟨_, _, _, e⟩ := x; exact Heap.lt_size e
 | frz ob u => obtain ⟨e, _⟩ := x; exact Heap.lt_size e
 | tbl ps => exact Heap.lt_size (show h.get? a = some _ from x)
 | met f y => exact Heap.lt_size (show h.get? a = some _ from x)
 | ext φ => obtain ⟨_, ⟨_, e⟩, _⟩ := x; exact Heap.lt_size e
theorem Paired.mapP {α β : Type} {F G : α -> β -> Prop} : ∀ {l₁ : List α} {l₂ : List β}, Paired F l₁ l₂ -> (∀ a b, F a b -> G a b) -> Paired G l₁ l₂
 | _, _, .nil, _ => .nil
 | _, _, .cons r t, f => .cons (f _ _ r) (Paired.mapP t f)
theorem ObjOk.stay (x : ObjOk P w H h a o) (k : ∀ b u, (b = a \/ H b = some (.own a)) -> h.get? b = some u -> h'.get? b = some u)
 (ho : ∀ b, H b = some (.own a) -> H' b = some (.own a)) (ht : ∀ b xs, H b = some (.tup xs) -> H' b = some (.tup xs)) : ObjOk P w H' h' a o := by
 induction o with
 | lst xs => obtain ⟨z, its, n, r, e⟩ := x; exact ⟨z, its, n, r, k _ _ (.inl rfl) e⟩
 | tup xs => obtain ⟨z, its, r, ob, e, c⟩ := x; exact ⟨z, its, r, ob, k _ _ (.inl rfl) e, c⟩
 | dK kvs => obtain ⟨z, y, vs, r, ob, es, ep, e, c⟩ := x; exact ⟨z, y, vs, r, ob, es, ep, k _ _ (.inl rfl) e, c⟩
 | dT kvs =>
  obtain ⟨z, y, xs, r, ob, es, ep, e, c⟩ := x
  exact ⟨z, y, xs, Paired.mapP r fun p q z => ⟨z.1, ht _ _ z.2.1, z.2.2⟩, ob, es, ep, k _ _ (.inl rfl) e, c⟩
 | set S n => obtain ⟨ob, es, ep, t, e, c⟩ := x; exact ⟨ob, es, ep, t, k _ _ (.inl rfl) e, c⟩
 | ins C dx fs =>
  obtain ⟨d, z, ne, e, mA, ⟨od, es, ep, e2, c⟩, r⟩ := x
  exact ⟨ho _ d, z, ne, k _ _ (.inl rfl) e, mA, ⟨od, es, ep, k _ _ (.inr d) e2, c⟩, r⟩
 | own y => obtain ⟨ob, e⟩ := x; exact ⟨ob, k _ _ (.inl rfl) e⟩
 | xd fs => obtain ⟨mA, ⟨od, es, ep, e, c⟩, r⟩ := x; exact ⟨mA, ⟨od, es, ep, k _ _ (.inl rfl) e, c⟩, r⟩
 | rng lo hi => obtain ⟨t, u, v, e⟩ := x; exact ⟨t, u, v, k _ _ (.inl rfl) e⟩
 | frz ob u ih => obtain ⟨e, q⟩ := x; exact ⟨k _ _ (.inl rfl) e, ih q⟩
 | tbl ps =>
  have e : h.get? a = some { cls := .none, data := .fields ps } := x
  show h'.get? a = some { cls := .none, data := .fields ps }
  exact k a _ (.inl rfl) e
 | met f y =>
  have e : h.get? a = some (PySem.W.methodObj (.ref f) (.ref y)) := x
  show h'.get? a = some (PySem.W.methodObj (.ref f) (.ref y))
  exact k a _ (.inl rfl) e
 | ext φ => obtain ⟨p, ⟨o, e⟩, st⟩ := x; exact ⟨st _ _ p fun o q => k _ _ (.inl rfl) q, ⟨o, k _ _ (.inl rfl) e⟩, st⟩
theorem HOk.lt (x : HOk P w H h) (e : H a = some o) : a < h.objs.size := (x a o e).lt
theorem HOk.fresh (x : HOk P w H h) (e : h.objs.size <= a) : H a = none := by
 cases q : H a with
 | none => rfl
 | some u => exact absurd (Nat.lt_of_lt_of_le (x.lt q) e) (Nat.lt_irrefl _)
theorem HOk.kept (x : HOk P w H h) (k : ∀ b u, h.get? b = some u -> h'.get? b = some u) : HOk P w H h' := fun a o e =>
 (x a o e).stay (fun b u _ q => k b u q) (fun _ q => q) fun _ _ q => q
theorem HOk.laid (x : HOk P w H h) (k : ∀ b u, h.get? b = some u -> h'.get? b = some u) (hp : h.objs.size <= a) (new : ObjOk P w (upd H a o) h' a o) : HOk P w (upd H a o) h' := fun b u e => by
 have hn := x.fresh hp
 by_cases hb : b = a
 · subst hb; rw [aT] at e; cases e; exact new
 · rw [aI hb] at e
   exact (x b u e).stay (fun c v _ q => k c v q) (fun c q => by rw [aI (aN q hn)]; exact q) fun c xs q => by rw [aI (aN q hn)]; exact q
end
def Rd (H : Hp) (a : Addr) (u : HO) : Prop := H a = some u \/ ∃ o, H a = some (.frz o u)
theorem Rd.ok {P : Program} {w : World} {H : Hp} {h : Heap} {a : Addr} {u : HO} (r : Rd H a u) (x : HOk P w H h) : ObjOk P w H h a u := by
 rcases r with r | ⟨o, r⟩
 · exact x a u r
 · obtain ⟨_, q⟩ := x a _ r
   exact q
def Mut : Option HO -> Prop
 | some (.lst _) => True
 | some (.dK _) => True
 | some (.dT _) => True
 | some (.set _ _) => True
 | some (.ins _ _ _) => True
 | some (.ext _) => True
 | _ => False
section
variable {P : Program} {w : World} {H : Hp} {h h' : Heap} {x e : Addr} {o' : HO}
theorem HOk.write (ok : HOk P w H h) (mu : Mut (H x)) (he : e = x \/ H e = some (.own x)) (k : ∀ b u, b ≠ e -> h.get? b = some u -> h'.get? b = some u) (heo : ∃ u, h'.get? e = some u)
 (new : ObjOk P w (upd H x o') h' x o') : HOk P w (upd H x o') h' := fun b u q => by
 have nown : ∀ c y, H c = some (.own y) -> c ≠ x := fun c y r z => by subst z; rw [r] at mu; exact mu
 have ntup : ∀ c xs, H c = some (.tup xs) -> c ≠ x := fun c xs r z => by subst z; rw [r] at mu; exact mu
 by_cases hb : b = x
 · subst hb; rw [aT] at q; cases q; exact new
 · rw [aI hb] at q
   by_cases hbe : b = e
   · have q' : H b = some (.own x) := by
      rcases he with z | z
      · exact absurd (hbe.trans z) hb
      · rw [hbe]; exact z
     rw [q] at q'; cases q'
     obtain ⟨v, hv⟩ := heo
     exact ⟨v, by rw [hbe]; exact hv⟩
   · refine (ok b u q).stay (fun c v hc r => k c v ?_ r) (fun c r => by rw [aI (nown c b r)]; exact r) fun c xs r => by rw [aI (ntup c xs r)]; exact r
     rcases hc with rfl | hc
     · exact hbe
     · rintro rfl
       rcases he with z | z
       · exact nown c b hc z
       · rw [hc] at z; cases z; exact hb rfl
end
structure Un (fs ex : List Addr) (H H' : Hp) (h h' : Heap) : Prop where
 keep : ∀ b o, h.get? b = some o -> H b = none -> b ∉ fs -> b ∉ ex -> h'.get? b = some o
 slot : ∀ b o, h.get? b = some o -> H b = none -> b ∈ fs -> b ∉ ex -> ∃ sl, h'.get? b = some { o with slots := sl }
 free : ∀ b o, h.get? b = some o -> H b = none -> b ∉ ex -> H' b = none
 there : ∀ b o, h.get? b = some o -> b ∉ ex -> ∃ o', h'.get? b = some o'
 tups : ∀ b xs, H b = some (.tup xs) -> H' b = some (.tup xs)
 frzs : ∀ b o u, H b = some (.frz o u) -> H' b = some (.frz o u)
 tbls : ∀ b ps, H b = some (.tbl ps) -> ∃ more, H' b = some (.tbl (ps ++ more))
section
variable {fs fs' ex ex' : List Addr} {H H1 H2 : Hp} {h h1 h2 h' : Heap} {a x e : Addr} {o : HO}
theorem Un.any (u : Un fs ex H H1 h h1) {b : Addr} {ob : Obj} (q : h.get? b = some ob) (n : H b = none) (hx : b ∉ ex) : ∃ sl, h1.get? b = some { ob with slots := sl } := by
 by_cases hb : b ∈ fs
 · exact u.slot b ob q n hb hx
 · exact ⟨ob.slots, u.keep b ob q n hb hx⟩
theorem Un.kept (k : ∀ b u, h.get? b = some u -> h'.get? b = some u) : Un fs ex H H h h' :=
 ⟨fun b ob q _ _ _ => k b ob q, fun b ob q _ _ _ => ⟨ob.slots, k b ob q⟩, fun _ _ _ n _ => n, fun b ob q _ => ⟨ob, k b ob q⟩, fun _ _ q => q, fun _ _ _ q => q, fun _ ps q => ⟨#[], by rw [q]; simp⟩⟩
theorem Un.refl : Un fs ex H H h h := Un.kept fun _ _ q => q
theorem Un.laid (k : ∀ b u, h.get? b = some u -> h'.get? b = some u) (hp : h.objs.size <= a) (hn : H a = none) : Un fs ex H (upd H a o) h h' where
 keep := fun b u q _ _ _ => k b u q
 slot := fun b u q _ _ _ => ⟨u.slots, k b u q⟩
 free := fun b u q n _ => by rw [aI (Nat.ne_of_lt (Nat.lt_of_lt_of_le (Heap.lt_size q) hp))]; exact n
 there := fun b u q _ => ⟨u, k b u q⟩
 tups := fun b xs q => by rw [aI (aN q hn)]; exact q
 frzs := fun b u xs q => by rw [aI (aN q hn)]; exact q
 tbls := fun b ps q => ⟨#[], by rw [aI (aN q hn), q]; simp⟩
theorem Un.write (mu : Mut (H x)) (he : e = x \/ H e = some (.own x)) (k : ∀ b u, b ≠ e -> h.get? b = some u -> h'.get? b = some u) (heo : ∃ u, h'.get? e = some u) : Un fs ex H (upd H x o) h h' := by
 have hx : ∀ b, H b = none -> b ≠ x := fun b n z => by subst z; rw [n] at mu; exact mu
 have hb : ∀ b, H b = none -> b ≠ e := fun b n z => by
  subst z
  rcases he with r | r
  · exact hx b n r
  · rw [n] at r; cases r
 have hm : ∀ b u, H b = some u -> ¬ Mut (some u) -> b ≠ x := fun b u q nm z => by subst z; rw [q] at mu; exact nm mu
 refine ⟨fun b u q n _ _ => k b u (hb b n) q, fun b u q n _ _ => ⟨u.slots, k b u (hb b n) q⟩, fun b u q n _ => by rw [aI (hx b n)]; exact n, fun b u q _ => ?_,
  fun b xs q => by rw [aI (hm b _ q fun z => z)]; exact q, fun b u xs q => by rw [aI (hm b _ q fun z => z)]; exact q, fun b ps q => ⟨#[], by rw [aI (hm b _ q fun z => z), q]; simp⟩⟩
 by_cases hbe : b = e
 · subst hbe; exact heo
 · exact ⟨u, k b u hbe q⟩
end
def trk (h : Heap) (H : Hp) : List Addr := (List.range h.objs.size).filter fun a => (H a).isSome
def yF (h : Heap) (H : Hp) : Heap := PySem.W.hideAll h (trk h H)
theorem GJ (h : Heap) (H : Hp) : (yF h H).objs.size = h.objs.size := PySem.W.hideAll_size _ _
theorem JD {h : Heap} {H : Hp} {b : Addr} {o : Obj} (e : h.get? b = some o) (n : H b = none) : (yF h H).get? b = some o :=
 PySem.W.hideAll_get _ e fun hm => by
  have q : (H b).isSome = true := (List.mem_filter.mp hm).2
  rw [n] at q; simp at q
theorem UB {h : Heap} {H : Hp} {b : Addr} {o : Obj} (e : (yF h H).get? b = some o) : h.get? b = some o /\ H b = none := by
 have e' : h.get? b = some o := PySem.W.of_hideAll (trk h H) e
 refine ⟨e', ?_⟩
 cases q : H b with
 | none => rfl
 | some x =>
  have hm : b ∈ trk h H := List.mem_filter.mpr ⟨List.mem_range.mpr (Heap.lt_size e'), by simp [q]⟩
  have z : (yF h H).get? b = none := PySem.W.hideAll_none (trk h H) hm
  rw [z] at e; cases e
def mJ (g h : Heap) (L : Addr) : List (Addr × Obj) := (List.range h.objs.size).filterMap fun a => if a = L \/ (g.get? a).isSome = true then none else (h.get? a).map fun o => (a, o)
theorem qX {g h : Heap} {L a : Addr} {o : Obj} (h1 : a ≠ L) (h2 : g.get? a = none) (h3 : h.get? a = some o) : (a, o) ∈ mJ g h L :=
 List.mem_filterMap.mpr ⟨a, List.mem_range.mpr (Heap.lt_size h3), by simp [h1, h2, h3]⟩
theorem sU {g h : Heap} {L : Addr} {p : Addr × Obj} (hp : p ∈ mJ g h L) : p.1 ≠ L /\ g.get? p.1 = none /\ h.get? p.1 = some p.2 := by
 obtain ⟨b, _, e⟩ := List.mem_filterMap.mp hp
 split at e
 · cases e
 · rename_i hn
   cases q : h.get? b with
   | none => rw [q] at e; simp at e
   | some u =>
    rw [q] at e
    simp only [Option.map_some, Option.some.injEq] at e
    subst e
    refine ⟨fun z => hn (.inl z), ?_, q⟩
    show g.get? b = none
    cases r : g.get? b with
    | none => rfl
    | some v => exact (hn (.inr (by simp [r]))).elim
def rest (g h : Heap) (L d : Addr) : List (Addr × Obj) := (mJ g h L).filter fun p => decide (p.1 ≠ d)
theorem KO {g h : Heap} {L : Addr} : News g L h (mJ g h L) := fun p hp => let ⟨a, b, c⟩ := sU hp; ⟨c, a, b⟩
end L2
namespace L2
open PySem PySem.Spec PyProof.Rows
structure Mod (K : PySem.W.Frag) (mg : Str -> Option Value) (base : Heap) : Prop where
 kin : K.In base
 glob : base.Ns mainGlobals mg
 blt : ∃ mb, base.Ns builtinsNs mb /\ ∀ x : Str, x ≠ "__name__" -> mb x = bootBuiltins x
 nolimit : base.NoLimit
 sysm : ∃ o es ep, base.get? sysModules = some o /\ o.data = .dict es ep
structure Cx where
 prog : Program
 w : World
 K : PySem.W.Frag
 mg : Str -> Option Value
 base : Heap
 A : Around
 N : List Str
 s₀ : Shared
 H₀ : Hp
 env : Env
 outer : List Env
 stack : List Env
 ex : List Addr
 fn : Str -> Bool
 calm : Bool
 pn : List (Addr × Obj)
 xe : Value -> Shared -> Prop
def frs (l : List Env) : List Addr := l.filterMap (·.frame)
abbrev Cx.fs (X : Cx) : List Addr := frs X.outer
def Vis (sc : Scope) (x : Str) : Prop := sc.names.lookup x = some .local \/ sc.names.lookup x = some .cell \/ sc.names.lookup x = some .free
def Loc (sc : Scope) (x : Str) : Prop := sc.names.lookup x = some .local \/ sc.names.lookup x = some .cell
def Look (env : Env) (h : Heap) (m : Str -> Option Value) (x : Str) (u : Value) : Prop :=
 (env.kindOf x = some .local /\ m x = some u) \/ ((env.kindOf x = some .cell \/ env.kindOf x = some .free) /\ ∃ c, env.cells.lookup x = some c /\ h.IsCell c (some u))
structure Cx.Ok (X : Cx) : Prop where
 mod : Mod X.K X.mg X.base
 kind : X.env.scope.kind = .function
 glob : X.env.globals = mainGlobals
 blt : X.env.builtins = builtinsNs
 above : X.s₀.heap.objs.size <= X.env.locals
 inj : ∀ x y c, X.env.cells.lookup x = some c -> X.env.cells.lookup y = some c -> x = y
 has : ∀ x, (X.env.kindOf x = some .cell \/ X.env.kindOf x = some .free) -> ∃ c, X.env.cells.lookup x = some c
 cab : ∀ x c, X.fn x = true -> X.env.cells.lookup x = some c -> X.s₀.heap.objs.size <= c
 hd : X.calm = true -> X.A.handled = none
 frames : X.A.frames = some X.stack
 stk : X.stack = X.outer \/ (X.stack = X.env :: X.outer /\ X.env.frame = some X.env.locals)
 exf : ∀ b ∈ X.ex, b ≠ X.env.locals /\ ∀ x c, X.env.cells.lookup x = some c -> c ≠ b
 bs : ∀ b o, X.base.get? b = some o -> X.s₀.heap.get? b = some o /\ X.H₀ b = none
 bsz : X.base.objs.size <= X.s₀.heap.objs.size
 noex : ∀ b o, X.base.get? b = some o -> b ∉ X.ex
 exfs : ∀ b ∈ X.ex, b ∉ X.fs
 funs : X.s₀.heap.FunFrames X.base X.outer
 frf : ∀ b ∈ X.fs, X.H₀ b = none
structure Inv (X : Cx) (pins : List (Addr × Obj)) (σ : List (Option V)) (H : Hp) (s : Shared) : Prop where
 ok : X.Ok
 os : s.os = X.s₀.os
 bare : AllBare s.gens
 base : Un X.fs X.ex X.H₀ H X.s₀.heap s.heap
 loc : ∃ m, s.heap.Ns X.env.locals m /\ ∀ (i : Nat) (x : Str) (v : V), X.N[i]? = some x -> σ[i]? = some (some v) -> Vis X.env.scope x -> ∃ u, RelV v u /\ Look X.env s.heap m x u
 cell : ∀ x c, X.env.cells.lookup x = some c -> ∃ v, s.heap.IsCell c v
 free : H X.env.locals = none
 freeC : ∀ x c, X.env.cells.lookup x = some c -> H c = none
 pin : ∀ p ∈ X.pn ++ pins, s.heap.get? p.1 = some p.2 /\ H p.1 = none /\ p.1 ≠ X.env.locals /\ p.1 ∉ X.fs /\ ∀ v, p.2.data ≠ .cell v
 hok : HOk X.prog X.w H s.heap
 len : σ.length = X.N.length
section
variable {X : Cx} {pins : List (Addr × Obj)} {σ : List (Option V)} {H H' : Hp} {s : Shared} {h' : Heap}
theorem Cx.Ok.nofr (ok : X.Ok) {b : Addr} {o : Obj} (e : X.base.get? b = some o) : b ∉ X.fs := fun hb => by
 have := (ok.funs.mem hb).1
 rw [e] at this; cases this
theorem Inv.bs (I : Inv X pins σ H s) : ∀ b o, X.base.get? b = some o -> s.heap.get? b = some o /\ H b = none := fun b o e =>
 ⟨I.base.keep b o (I.ok.bs b o e).1 (I.ok.bs b o e).2 (I.ok.nofr e) (I.ok.noex b o e), I.base.free b o (I.ok.bs b o e).1 (I.ok.bs b o e).2 (I.ok.noex b o e)⟩
theorem Inv.bk (I : Inv X pins σ H s) : ∀ b o, X.base.get? b = some o -> s.heap.get? b = some o := fun b o e => (I.bs b o e).1
theorem Inv.mod (I : Inv X pins σ H s) : Mod X.K X.mg X.base := I.ok.mod
theorem Inv.kIn (I : Inv X pins σ H s) : X.K.In s.heap := I.ok.mod.kin.keeps I.bk
theorem Inv.fr (I : Inv X pins σ H s) : ∃ m, Fr X.base X.env.locals s.heap m :=
 let ⟨m, hn, _⟩ := I.loc
 ⟨m, hn, I.bk, Nat.le_trans I.ok.bsz I.ok.above⟩
theorem Inv.lt (I : Inv X pins σ H s) : X.env.locals < s.heap.objs.size := let ⟨_, hn, _⟩ := I.loc; hn.lt
theorem Inv.sz (I : Inv X pins σ H s) : X.s₀.heap.objs.size <= s.heap.objs.size := Nat.le_trans I.ok.above (Nat.le_of_lt I.lt)
theorem Inv.nofs (I : Inv X pins σ H s) {a : Addr} (h : s.heap.objs.size <= a) : a ∉ X.fs := fun hb => by
 obtain ⟨_, o, ho, _⟩ := I.ok.funs.mem hb
 exact absurd (Nat.lt_of_lt_of_le (Heap.lt_size ho) (Nat.le_trans I.sz h)) (Nat.lt_irrefl _)
theorem Inv.cne (I : Inv X pins σ H s) : ∀ x c, X.env.cells.lookup x = some c -> c ≠ X.env.locals := fun x c e z => by
 obtain ⟨v, o, ho, hd⟩ := I.cell x c e
 obtain ⟨m, ⟨o', es, ep, ho', hd', _⟩, _⟩ := I.loc
 rw [z, ho'] at ho; cases ho; rw [hd'] at hd; cases hd
theorem Inv.funs (I : Inv X pins σ H s) : s.heap.FunFrames X.base X.outer := by
 have all : ∀ (l : List Env), (∀ b ∈ frs l, b ∈ X.fs) -> X.s₀.heap.FunFrames X.base l -> s.heap.FunFrames X.base l := by
  intro l
  induction l with
  | nil => intro _ _; trivial
  | cons env r ih =>
   intro hs hl
   obtain ⟨hk, ⟨L, o, hf, hn, ho, hd⟩, hr⟩ := hl
   have hL : L ∈ X.fs := hs L (by unfold frs; rw [List.filterMap_cons, hf]; exact List.mem_cons_self)
   obtain ⟨sl, e⟩ := I.base.slot L o ho (I.ok.frf L hL) hL fun z => I.ok.exfs L z hL
   exact ⟨hk, ⟨L, _, hf, hn, e, hd⟩, ih (fun b hb => hs b (by unfold frs; rw [List.filterMap_cons, hf]; exact List.mem_cons_of_mem _ hb)) hr⟩
 exact all X.outer (fun _ hb => hb) I.ok.funs
theorem Inv.stack (I : Inv X pins σ H s) : s.heap.FunFrames X.base X.stack := by
 rcases I.ok.stk with e | ⟨e, hf⟩
 · rw [e]; exact I.funs
 · rw [e]
   obtain ⟨m, hn, _⟩ := I.loc
   refine .cons (by rw [I.ok.kind]; decide) hf hn ?_ I.funs
   exact Heap.get?_none_of_le (Nat.le_trans I.ok.bsz I.ok.above)
theorem Inv.stkSub (I : Inv X pins σ H s) : ∀ b ∈ frs X.stack, b ∈ X.env.locals :: X.fs := fun b hb => by
 rcases I.ok.stk with e | ⟨e, hf⟩
 · rw [e] at hb; exact List.mem_cons_of_mem _ hb
 · rw [e] at hb
   unfold frs at hb
   rw [List.filterMap_cons, hf] at hb
   exact hb
theorem Inv.stkFree (I : Inv X pins σ H s) : ∀ b ∈ frs X.stack, H b = none := fun b hb => by
 rcases List.mem_cons.mp (I.stkSub b hb) with e | hb
 · rw [e]; exact I.free
 · obtain ⟨_, o, ho, _⟩ := I.ok.funs.mem hb
   exact I.base.free b o ho (I.ok.frf b hb) fun z => I.ok.exfs b z hb
theorem Inv.step {g' : Array GenState} {t' : Nat} {d' : Drawn} {ch : List Addr} (I : Inv X pins σ H s)
 (hch : ∀ b ∈ ch, (b ∈ X.ex \/ X.s₀.heap.objs.size <= b) /\ b ≠ X.env.locals /\ (∀ x c, X.env.cells.lookup x = some c -> c ≠ b) /\ ∀ p ∈ X.pn ++ pins, p.1 ≠ b)
 (keep : ∀ b o, b ≠ X.env.locals -> b ∉ X.fs -> b ∉ ch -> s.heap.get? b = some o -> H b = none -> h'.get? b = some o)
 (slot : ∀ b o, b ≠ X.env.locals -> b ∈ X.fs -> b ∉ ch -> s.heap.get? b = some o -> H b = none -> ∃ sl, h'.get? b = some { o with slots := sl }) (free : ∀ b o, b ∉ ch -> s.heap.get? b = some o -> H b = none -> H' b = none)
 (there : ∀ b o, b ∉ ch -> s.heap.get? b = some o -> ∃ o', h'.get? b = some o')
 (tups : ∀ b xs, H b = some (.tup xs) -> H' b = some (.tup xs)) (frzs : ∀ b o u, H b = some (.frz o u) -> H' b = some (.frz o u)) (tbls : ∀ b ps, H b = some (.tbl ps) -> ∃ more, H' b = some (.tbl (ps ++ more)))
 (ns : ∀ m, s.heap.Ns X.env.locals m -> h'.Ns X.env.locals m) (hok : HOk X.prog X.w H' h') (hg : AllBare g') :
 Inv X pins σ H' { s with heap := h', gens := g', drawn := d', toks := t' } := by
 have neL : ∀ b o, X.s₀.heap.get? b = some o -> b ≠ X.env.locals := fun b o e => Nat.ne_of_lt (Nat.lt_of_lt_of_le (Heap.lt_size e) I.ok.above)
 have neC : ∀ b o, X.s₀.heap.get? b = some o -> b ∉ X.ex -> b ∉ ch := fun b o e hx hb => by
  rcases (hch b hb).1 with z | z
  · exact hx z
  · exact absurd (Nat.lt_of_lt_of_le (Heap.lt_size e) z) (Nat.lt_irrefl _)
 have cellK : ∀ x c, X.env.cells.lookup x = some c -> ∀ v, s.heap.IsCell c v -> h'.IsCell c v := fun x c e v ⟨o, ho, hd⟩ => by
  have nch : c ∉ ch := fun z => (hch c z).2.2.1 x c e rfl
  by_cases hc : c ∈ X.fs
  · obtain ⟨sl, q⟩ := slot c o (I.cne x c e) hc nch ho (I.freeC x c e)
    exact ⟨_, q, hd⟩
  · exact ⟨o, keep c o (I.cne x c e) hc nch ho (I.freeC x c e), hd⟩
 refine ⟨I.ok, I.os, hg, ⟨fun b o e n hb hx => ?_, fun b o e n hb hx => ?_, fun b o e n hx => ?_, fun b o e hx => ?_, fun b xs e => tups b xs (I.base.tups b xs e), fun b o xs e => frzs b o xs (I.base.frzs b o xs e), fun b ps e => ?_⟩, ?_, fun x c e => ?_, ?_, fun x c e => ?_, fun p hp => ?_, hok, I.len⟩
 · exact keep b o (neL b o e) hb (neC b o e hx) (I.base.keep b o e n hb hx) (I.base.free b o e n hx)
 · obtain ⟨sl, e1⟩ := I.base.slot b o e n hb hx
   obtain ⟨sl', e2⟩ := slot b _ (neL b o e) hb (neC b o e hx) e1 (I.base.free b o e n hx)
   exact ⟨sl', e2⟩
 · obtain ⟨o', e1⟩ := I.base.there b o e hx
   exact free b o' (neC b o e hx) e1 (I.base.free b o e n hx)
 · obtain ⟨o', e1⟩ := I.base.there b o e hx
   exact there b o' (neC b o e hx) e1
 · obtain ⟨m1, e1⟩ := I.base.tbls b ps e
   obtain ⟨m2, e2⟩ := tbls b _ e1
   exact ⟨m1 ++ m2, by rw [e2, Array.append_assoc]⟩
 · obtain ⟨m, hn, hl⟩ := I.loc
   refine ⟨m, ns m hn, fun i x v e1 e2 e3 => ?_⟩
   obtain ⟨u, r, l⟩ := hl i x v e1 e2 e3
   refine ⟨u, r, ?_⟩
   rcases l with l | ⟨k, c, e, z⟩
   · exact .inl l
   · exact .inr ⟨k, c, e, cellK x c e _ z⟩
 · obtain ⟨v, z⟩ := I.cell x c e
   exact ⟨v, cellK x c e v z⟩
 · obtain ⟨m, ⟨o, _, _, ho, _⟩, _⟩ := I.loc
   exact free _ o (fun z => (hch _ z).2.1 rfl) ho I.free
 · obtain ⟨v, o, ho, hd⟩ := I.cell x c e
   exact free c o (fun z => (hch c z).2.2.1 x c e rfl) ho (I.freeC x c e)
 · obtain ⟨e, n, ne, nf, d⟩ := I.pin p hp
   have nch : p.1 ∉ ch := fun z => (hch p.1 z).2.2.2 p hp rfl
   exact ⟨keep p.1 p.2 ne nf nch e n, free p.1 p.2 nch e n, ne, nf, d⟩
theorem Inv.un {t' : Nat} (I : Inv X pins σ H s) (u : Un X.fs [] H H' s.heap h') (hok : HOk X.prog X.w H' h') : Inv X pins σ H' { s with heap := h', toks := t' } := by
 obtain ⟨m, ⟨o, es, ep, ho, r⟩, _⟩ := id I.loc
 obtain ⟨sl, hL⟩ := u.any ho I.free (by simp)
 exact I.step (g' := s.gens) (d' := s.drawn) (ch := []) (fun _ z => nomatch z) (fun b o _ hb _ e n => u.keep b o e n hb (by simp)) (fun b o _ hb _ e n => u.slot b o e n hb (by simp)) (fun b o _ e n => u.free b o e n (by simp)) (fun b o _ e => u.there b o e (by simp)) u.tups u.frzs u.tbls (fun m' hm => by
  obtain ⟨o', es', ep', ho', r'⟩ := hm
  rw [ho] at ho'; cases ho'
  exact ⟨_, es', ep', hL, r'⟩) hok I.bare
theorem Inv.call {g' : Array GenState} {t' : Nat} {d' : Drawn} {ch : List Addr} (I : Inv X pins σ H s) (u : Un (frs X.stack) ch H H' s.heap h') (hok : HOk X.prog X.w H' h') (hg : AllBare g')
 (hch : ∀ b ∈ ch, (b ∈ X.ex \/ X.s₀.heap.objs.size <= b) /\ b ≠ X.env.locals /\ (∀ x c, X.env.cells.lookup x = some c -> c ≠ b) /\ ∀ p ∈ X.pn ++ pins, p.1 ≠ b) :
 Inv X pins σ H' { s with heap := h', gens := g', drawn := d', toks := t' } := by
 obtain ⟨m, ⟨o, es, ep, ho, r⟩, _⟩ := id I.loc
 obtain ⟨sl, hL⟩ := u.any ho I.free fun z => (hch _ z).2.1 rfl
 exact I.step (ch := ch) hch (fun b o hL hb hc e n => u.keep b o e n (fun z => (List.mem_cons.mp (I.stkSub b z)).elim hL hb) hc) (fun b o _ _ hc e n => u.any e n hc) (fun b o hc e n => u.free b o e n hc) (fun b o hc e => u.there b o e hc) u.tups u.frzs u.tbls (fun m' hm => by
  obtain ⟨o', es', ep', ho', r'⟩ := hm
  rw [ho] at ho'; cases ho'
  exact ⟨_, es', ep', hL, r'⟩) hok hg
theorem Inv.turned {t' : Nat} {it : Addr} (I : Inv X pins σ H s) (k : ∀ b o, b ≠ it -> s.heap.get? b = some o -> h'.get? b = some o) (hn : H it = none) (hL : it ≠ X.env.locals)
 (h1 : it ∈ X.ex \/ X.s₀.heap.objs.size <= it) (h2 : ∀ x c, X.env.cells.lookup x = some c -> c ≠ it) (h3 : ∀ p ∈ X.pn ++ pins, p.1 ≠ it) : Inv X pins σ H { s with heap := h', toks := t' } := by
 have nit : ∀ b u, H b = some u -> b ≠ it := fun b u e z => by rw [z, hn] at e; cases e
 refine I.step (g' := s.gens) (d' := s.drawn) (ch := [it]) (fun b hb => ?_) (fun b o _ _ hc e _ => k b o (fun z => hc (by simp [z])) e) (fun b o _ _ hc e _ => ⟨o.slots, k b o (fun z => hc (by simp [z])) e⟩) (fun _ _ _ _ n => n)
  (fun b o hc e => ⟨o, k b o (fun z => hc (by simp [z])) e⟩) (fun _ _ e => e) (fun _ _ _ e => e) (fun b ps e => ⟨#[], by rw [e]; simp⟩) (fun m hm => ?_) (fun b u e => ?_) I.bare
 · have e : b = it := by simpa using hb
   subst e
   exact ⟨h1, hL, h2, h3⟩
 · obtain ⟨o, es, ep, ho, r⟩ := hm
   exact ⟨o, es, ep, k _ o (Ne.symm hL) ho, r⟩
 · refine (I.hok b u e).stay (fun c v hc q => k c v ?_ q) (fun _ q => q) fun _ _ q => q
   rcases hc with z | z
   · rw [z]; exact nit b u e
   · exact nit c _ z
theorem Inv.tok (I : Inv X pins σ H s) (t : Nat) : Inv X pins σ H { s with toks := t } := I.un (h' := s.heap) (t' := t) Un.refl I.hok
theorem Inv.kept {t' : Nat} (I : Inv X pins σ H s) (k : ∀ b u, s.heap.get? b = some u -> h'.get? b = some u) : Inv X pins σ H { s with heap := h', toks := t' } := I.un (Un.kept k) (I.hok.kept k)
theorem Inv.laid {a : Addr} {o : HO} {t' : Nat} (I : Inv X pins σ H s) (k : ∀ b u, s.heap.get? b = some u -> h'.get? b = some u) (hp : s.heap.objs.size <= a) (new : ObjOk X.prog X.w (upd H a o) h' a o) :
 Inv X pins σ (upd H a o) { s with heap := h', toks := t' } := I.un (Un.laid k hp (I.hok.fresh hp)) (I.hok.laid k hp new)
theorem Inv.write {x e : Addr} {o : HO} {t' : Nat} (I : Inv X pins σ H s) (mu : Mut (H x)) (he : e = x \/ H e = some (.own x)) (k : ∀ b u, b ≠ e -> s.heap.get? b = some u -> h'.get? b = some u) (heo : ∃ u, h'.get? e = some u)
 (new : ObjOk X.prog X.w (upd H x o) h' x o) : Inv X pins σ (upd H x o) { s with heap := h', toks := t' } := I.un (Un.write mu he k heo) (I.hok.write mu he k heo new)
theorem Inv.pins_of {pins' : List (Addr × Obj)} (I : Inv X pins σ H s) (h : ∀ p ∈ pins', s.heap.get? p.1 = some p.2 /\ H p.1 = none /\ p.1 ≠ X.env.locals /\ p.1 ∉ X.fs /\ ∀ v, p.2.data ≠ .cell v) : Inv X pins' σ H s :=
 ⟨I.ok, I.os, I.bare, I.base, I.loc, I.cell, I.free, I.freeC, fun p hp => (List.mem_append.mp hp).elim (fun z => I.pin p (List.mem_append_left _ z)) (h p), I.hok, I.len⟩
theorem sY {N : List Str} (hN : N.Nodup) {i j : Nat} {x : Str} (a : N[i]? = some x) (b : N[j]? = some x) : i = j := by
 obtain ⟨h1, e1⟩ := List.getElem?_eq_some_iff.mp a
 obtain ⟨h2, e2⟩ := List.getElem?_eq_some_iff.mp b
 exact (List.getElem_inj hN).mp (e1.trans e2.symm)
theorem vS {M : Model} {A : Around} {E : Value -> Shared -> Prop} {i : Nat} {x : Str} {v : V} {u : Value} {Q : Unit -> Shared -> Prop} (I : Inv X pins σ H s) (hN : X.N.Nodup) (hi : X.N[i]? = some x) (hx : Loc X.env.scope x) (r : RelV v u)
 (h : ∀ s', Inv X pins (σ.set i (some v)) H s' -> (∃ a, Heap.SameBut a s.heap s'.heap /\ (a = X.env.locals \/ X.env.cells.lookup x = some a)) -> Q () s') (hf : X.fn x = true \/ X.env.scope.names.lookup x = some .local := by first | exact .inl rfl | exact .inr rfl | assumption) : wpAny M A (storeName X.env x u) Q E s := by
 obtain ⟨m, hn, hl⟩ := id I.loc
 have hcls : (X.env.scope.kind == .class || (X.env.scope.kind == .module && X.env.locals != X.env.globals)) = false := by rw [I.ok.kind]; rfl
 have hiσ : i < σ.length := by rw [I.len]; exact (List.getElem?_eq_some_iff.mp hi).1
 have cne := I.cne
 have tracked : ∀ {a : Addr} {h' : Heap}, (∃ o, s.heap.get? a = some o /\ H a = none) -> Heap.SameBut a s.heap h' -> HOk X.prog X.w H h' := fun {a h'} ha hs b ob e => by
  obtain ⟨_, _, hfree⟩ := ha
  refine (I.hok b ob e).stay (fun c w' hc q => (hs.2 c ?_).trans q) (fun _ q => q) fun _ _ q => q
  rintro rfl
  rcases hc with rfl | hc
  · rw [hfree] at e; cases e
  · rw [hfree] at hc; cases hc
 rcases hx with hk | hk
 · refine wpAny_storeName_local hk hn (fun h' hn' hs => ?_) hcls
   obtain ⟨oL, _, _, hoL, _⟩ := id hn
   refine h _ ⟨I.ok, I.os, I.bare, ⟨fun b o e n hb hx => ?_, fun b o e n hb hx => ?_, I.base.free, fun b o e hx => ?_, I.base.tups, I.base.frzs, I.base.tbls⟩, ⟨_, hn', fun j y v' e1 e2 e3 => ?_⟩, fun y c e => ?_, I.free, I.freeC, fun p hp => ?_, tracked ⟨oL, hoL, I.free⟩ hs, by simpa using I.len⟩ ⟨_, hs, .inl rfl⟩
   · exact (hs.2 b (Nat.ne_of_lt (Nat.lt_of_lt_of_le (Heap.lt_size e) I.ok.above))).trans (I.base.keep b o e n hb hx)
   · obtain ⟨sl, e1⟩ := I.base.slot b o e n hb hx
     exact ⟨sl, (hs.2 b (Nat.ne_of_lt (Nat.lt_of_lt_of_le (Heap.lt_size e) I.ok.above))).trans e1⟩
   · obtain ⟨o', e1⟩ := I.base.there b o e hx
     exact ⟨o', (hs.2 b (Nat.ne_of_lt (Nat.lt_of_lt_of_le (Heap.lt_size e) I.ok.above))).trans e1⟩
   · by_cases hj : j = i
     · subst hj
       rw [hi] at e1; cases e1
       rw [List.getElem?_set_self hiσ] at e2
       cases e2
       exact ⟨u, r, .inl ⟨hk, by simp⟩⟩
     · rw [List.getElem?_set_ne (Ne.symm hj)] at e2
       obtain ⟨u', r', q⟩ := hl j y v' e1 e2 e3
       refine ⟨u', r', ?_⟩
       rcases q with ⟨k, e⟩ | ⟨k, c, e, z⟩
       · refine .inl ⟨k, ?_⟩
         have : y ≠ x := fun e => hj (sY hN e1 (e ▸ hi))
         simp [this, e]
       · exact .inr ⟨k, c, e, z.sameBut hs (cne y c e)⟩
   · obtain ⟨w', z⟩ := I.cell y c e
     exact ⟨w', z.sameBut hs (cne y c e)⟩
   · obtain ⟨e, n, ne, nf, d⟩ := I.pin p hp
     exact ⟨(hs.2 p.1 ne).trans e, n, ne, nf, d⟩
 · have hfn : X.fn x = true := by
    rcases hf with z | z
    · exact z
    · rw [z] at hk; cases hk
   obtain ⟨c, hc⟩ := I.ok.has x (.inl hk)
   obtain ⟨w', z⟩ := I.cell x c hc
   refine wpAny_storeName_cell I.ok.kind hk hc z (fun h' hc' hs => ?_)
   obtain ⟨oc, hoc, hocd⟩ := id z
   refine h { s with heap := h' } ⟨I.ok, I.os, I.bare, ⟨fun b o e n hb hx => ?_, fun b o e n hb hx => ?_, I.base.free, fun b o e hx => ?_, I.base.tups, I.base.frzs, I.base.tbls⟩, ⟨m, hn.sameBut hs (Ne.symm (cne x c hc)), fun j y v' e1 e2 e3 => ?_⟩, fun y c' e => ?_, I.free, I.freeC, fun p hp => ?_, tracked ⟨oc, hoc, I.freeC x c hc⟩ hs, by simpa using I.len⟩ ⟨c, hs, .inr hc⟩
   · exact (hs.2 b (Nat.ne_of_lt (Nat.lt_of_lt_of_le (Heap.lt_size e) (I.ok.cab x c hfn hc)))).trans (I.base.keep b o e n hb hx)
   · obtain ⟨sl, e1⟩ := I.base.slot b o e n hb hx
     exact ⟨sl, (hs.2 b (Nat.ne_of_lt (Nat.lt_of_lt_of_le (Heap.lt_size e) (I.ok.cab x c hfn hc)))).trans e1⟩
   · obtain ⟨o', e1⟩ := I.base.there b o e hx
     exact ⟨o', (hs.2 b (Nat.ne_of_lt (Nat.lt_of_lt_of_le (Heap.lt_size e) (I.ok.cab x c hfn hc)))).trans e1⟩
   · by_cases hj : j = i
     · subst hj
       rw [hi] at e1; cases e1
       rw [List.getElem?_set_self hiσ] at e2
       cases e2
       exact ⟨u, r, .inr ⟨.inl hk, c, hc, hc'⟩⟩
     · rw [List.getElem?_set_ne (Ne.symm hj)] at e2
       obtain ⟨u', r', q⟩ := hl j y v' e1 e2 e3
       refine ⟨u', r', ?_⟩
       rcases q with q | ⟨k, c', e, z'⟩
       · exact .inl q
       · refine .inr ⟨k, c', e, z'.sameBut hs ?_⟩
         rintro rfl
         exact hj (sY hN e1 (I.ok.inj _ _ _ e hc ▸ hi))
   · by_cases hcc : c' = c
     · subst hcc; exact ⟨_, hc'⟩
     · obtain ⟨w2, z2⟩ := I.cell y c' e
       exact ⟨w2, z2.sameBut hs hcc⟩
   · obtain ⟨e, n, ne, nf, d⟩ := I.pin p hp
     refine ⟨(hs.2 p.1 ?_).trans e, n, ne, nf, d⟩
     intro q
     rw [q, hoc] at e
     have q' : oc = p.2 := Option.some.inj e
     exact d w' (by rw [<- q']; exact hocd)
theorem mC {M : Model} {A : Around} {E : Value -> Shared -> Prop} {i : Nat} {x : Str} {v : V} {u : Value} {Q : Unit -> Shared -> Prop} (I : Inv X pins σ H s) (hN : X.N.Nodup) (hi : X.N[i]? = some x) (hx : Loc X.env.scope x) (r : RelV v u)
 (h : ∀ s', Inv X pins (σ.set i (some v)) H s' -> Q () s') (hf : X.fn x = true \/ X.env.scope.names.lookup x = some .local := by first | exact .inl rfl | exact .inr rfl | assumption) : wpAny M A (storeName X.env x u) Q E s :=
 vS I hN hi hx r (fun s' I' _ => h s' I') hf
theorem Inv.call' {s' : Shared} {ch : List Addr} (I : Inv X pins σ H s) (ho : s'.os = s.os) (u : Un (frs X.stack) ch H H' s.heap s'.heap) (hok : HOk X.prog X.w H' s'.heap) (hg : AllBare s'.gens)
 (hch : ∀ b ∈ ch, (b ∈ X.ex \/ X.s₀.heap.objs.size <= b) /\ b ≠ X.env.locals /\ (∀ x c, X.env.cells.lookup x = some c -> c ≠ b) /\ ∀ p ∈ X.pn ++ pins, p.1 ≠ b) : Inv X pins σ H' s' := by
 obtain ⟨h', g', d', t', o'⟩ := s'
 have e : o' = s.os := ho
 subst e
 exact I.call (g' := g') (t' := t') (d' := d') u hok hg hch
end
abbrev XK := Value -> Option Addr -> Hp -> Prop
abbrev St := List (Option V)
abbrev VK := V -> Hp -> Prop
abbrev TE := St -> Hp -> VK -> Prop
abbrev TT := St -> Hp -> (Bool -> Hp -> Prop) -> Prop
abbrev TA := St -> Hp -> (List V -> Hp -> Prop) -> Prop
structure Ends where
 nx : St -> Hp -> Prop
 rt : VK
 bk : St -> Hp -> Prop := fun _ _ => False
 ct : St -> Hp -> Prop := fun _ _ => False
abbrev TS := Ends -> St -> Hp -> Prop
def EP (X : Cx) (pins : List (Addr × Obj)) (σ : St) (Q : VK) (u : Value) (s' : Shared) : Prop := ∃ v H', Inv X pins σ H' s' /\ RelV v u /\ Q v H'
def TP (X : Cx) (pins : List (Addr × Obj)) (σ : St) (Q : Bool -> Hp -> Prop) (b : Bool) (s' : Shared) : Prop := ∃ H', Inv X pins σ H' s' /\ Q b H'
def AP (X : Cx) (pins : List (Addr × Obj)) (σ : St) (Q : List V -> Hp -> Prop) (us : List Value) (s' : Shared) : Prop := ∃ vs H', Inv X pins σ H' s' /\ Vals vs us /\ Q vs H'
def SP (X : Cx) (pins : List (Addr × Obj)) (D : Ends) (f : Flow) (s' : Shared) : Prop :=
 match f with
 | .next => ∃ σ' H', Inv X pins σ' H' s' /\ D.nx σ' H'
 | .brk => ∃ σ' H', Inv X pins σ' H' s' /\ D.bk σ' H'
 | .cont => ∃ σ' H', Inv X pins σ' H' s' /\ D.ct σ' H'
 | .ret u => ∃ v σ' H', Inv X pins σ' H' s' /\ RelV v u /\ D.rt v H'
def PE (X : Cx) (e : Expr) (t : TE) : Prop :=
 ∀ (pins : List (Addr × Obj)) (s : Shared) (σ : St) (H : Hp) (Q : VK), Inv X pins σ H s -> t σ H Q -> wpAny (model X.prog X.w) X.A (eval e X.env) (EP X pins σ Q) X.xe s
def PT (X : Cx) (e : Expr) (t : TT) : Prop :=
 ∀ (pins : List (Addr × Obj)) (s : Shared) (σ : St) (H : Hp) (Q : Bool -> Hp -> Prop), Inv X pins σ H s -> t σ H Q -> wpAny (model X.prog X.w) X.A (isTrue e X.env (eval e X.env)) (TP X pins σ Q) X.xe s
def PW (X : Cx) (e : Expr) (t : TT) : Prop :=
 ∀ (whole : Sem Value) (pins : List (Addr × Obj)) (s : Shared) (σ : St) (H : Hp) (Q : Bool -> Hp -> Prop), Inv X pins σ H s -> t σ H Q -> wpAny (model X.prog X.w) X.A (isTrue e X.env whole) (TP X pins σ Q) X.xe s
theorem PW.pt {X : Cx} {e : Expr} {t : TT} (h : PW X e t) : PT X e t := h _
def PA (X : Cx) (es : List Expr) (t : TA) : Prop :=
 ∀ (pos : Pos) (pins : List (Addr × Obj)) (s : Shared) (σ : St) (H : Hp) (Q : List V -> Hp -> Prop), Inv X pins σ H s -> t σ H Q -> wpAny (model X.prog X.w) X.A (spliced (backTo pos (starEach es X.env))) (AP X pins σ Q) X.xe s
def PS (X : Cx) (st : Stmt) (t : TS) : Prop :=
 ∀ (pins : List (Addr × Obj)) (s : Shared) (σ : St) (H : Hp) (D : Ends), Inv X pins σ H s -> t D σ H -> wpAny (model X.prog X.w) X.A (exec st X.env) (SP X pins D) X.xe s
def PSs (X : Cx) (st : List Stmt) (t : TS) : Prop :=
 ∀ (pins : List (Addr × Obj)) (s : Shared) (σ : St) (H : Hp) (D : Ends), Inv X pins σ H s -> t D σ H -> wpAny (model X.prog X.w) X.A (execs st X.env) (SP X pins D) X.xe s
theorem thn {α : Type} {t : Sem α} {Q Q' : α -> Shared -> Prop} {M : Model} {A : Around} {E : Value -> Shared -> Prop} {s : Shared} (h : wpAny M A t Q E s) (hQ : ∀ a s, Q a s -> Q' a s) : wpAny M A t Q' E s := wpAny_mono h hQ fun _ _ x => x
end L2
namespace L2
open PySem PySem.Spec PyProof.Rows
section
variable {X : Cx}
theorem bin {a b : Expr} {ta tb : TE} (ha : PE X a ta) (hb : PE X b tb) {pins : List (Addr × Obj)} {s : Shared} {σ : St} {H : Hp} {R : V -> V -> Hp -> Prop} (I : Inv X pins σ H s) (h : ta σ H fun x H1 => tb σ H1 fun y H2 => R x y H2)
 {α : Type} {Q : α -> Shared -> Prop} {f : Value -> Value -> Sem α}
 (hf : ∀ v u s2 x y H2, Inv X pins σ H2 s2 -> RelV x v -> RelV y u -> R x y H2 -> wpAny (model X.prog X.w) X.A (f v u) Q X.xe s2) :
 wpAny (model X.prog X.w) X.A (eval a X.env) (fun v s₁ => wpAny (model X.prog X.w) X.A (eval b X.env) (fun u s₂ => wpAny (model X.prog X.w) X.A (f v u) Q X.xe s₂) X.xe s₁) X.xe s := by
 refine thn (ha pins s σ H _ I h) fun v s1 ⟨x, H1, I1, r1, q1⟩ => ?_
 refine thn (hb pins s1 σ H1 _ I1 q1) fun u s2 ⟨y, H2, I2, r2, q2⟩ => ?_
 exact hf v u s2 x y H2 I2 r1 r2 q2
def aBG (i : Nat) : TE := fun σ H Q => ∃ v, σ[i]? = some (some v) /\ Q v H
def tC (v : V) : TE := fun _ H Q => Q v H
theorem aAC {i : Nat} {x : Str} {pos : Pos} (hN : X.N[i]? = some x) (hv : Vis X.env.scope x) (hd : (x == ("__debug__" : Str)) = false := by decide) (hcd : (x == ("__classdict__" : Str)) = false := by decide) : PE X (.Name x pos) (aBG i) := by
 intro pins s σ H Q I h
 obtain ⟨v, e, h⟩ := h
 obtain ⟨m, hn, hl⟩ := I.loc
 obtain ⟨u, r, l⟩ := hl i x v hN e hv
 have fin : EP X pins σ Q u s := ⟨v, H, I, r, h⟩
 rcases l with ⟨hk, hm⟩ | ⟨hk, c, hc, hcell⟩
 · exact wpAny_Name (wpAny_loadName_local I.ok.kind hk hn hm fin) hd
 · rcases hk with hk | hk
   · exact wpAny_Name (wpAny_loadName_cell I.ok.kind hk hc hcell fin) hd
   · exact wpAny_Name (wpAny_loadName_free I.ok.kind hk hc hcell fin hcd) hd
theorem WD {i j pos} : PE X (.Constant (.int i) j pos) (tC (.int i)) := fun _ _ _ H _ I h => wpAny_Constant_int ⟨.int i, H, I.tok _, ⟨_, rfl⟩, h⟩
theorem aCJ {b j pos} : PE X (.Constant (.bool b) j pos) (tC (.bl b)) := fun _ _ _ H _ I h => Constant_bool ⟨.bl b, H, I, rfl, h⟩
theorem YY {j pos} : PE X (.Constant .none j pos) (tC .non) := fun _ _ _ H _ I h => Constant_none ⟨.non, H, I, rfl, h⟩
theorem YO {x j pos} : PE X (.Constant (.str x) j pos) (tC (.str x)) := fun _ _ _ H _ I h => Calls.Constant_str ⟨.str x, H, I.tok _, ⟨_, rfl⟩, h⟩
def Gl (X : Cx) (x : Str) : Prop := X.env.kindOf x = some .globalImplicit
theorem kA {E : Value -> Shared -> Prop} {pins : List (Addr × Obj)} {s : Shared} {σ : St} {H : Hp} {x : Str} {u : Value} {pos : Pos} {Q : Value -> Shared -> Prop} (I : Inv X pins σ H s) (hg : Gl X x) (hm : X.mg x = some u) (h : Q u s)
 (hd : (x == ("__debug__" : Str)) = false := by decide) : wpAny (model X.prog X.w) X.A (eval (.Name x pos) X.env) Q E s :=
 Calls.Name_function_global I.ok.kind hg (Calls.loadGlobal_global (by rw [I.ok.glob]; exact I.mod.glob.keeps I.bk) hm h) hd
theorem nO {E : Value -> Shared -> Prop} {pins : List (Addr × Obj)} {s : Shared} {σ : St} {H : Hp} {x : Str} {u : Value} {pos : Pos} {Q : Value -> Shared -> Prop} (I : Inv X pins σ H s) (hg : Gl X x) (hm : X.mg x = none) (hv : bootBuiltins x = some u) (h : Q u s)
 (hn : x ≠ "__name__" := by decide) (hd : (x == ("__debug__" : Str)) = false := by decide) : wpAny (model X.prog X.w) X.A (eval (.Name x pos) X.env) Q E s := by
 obtain ⟨mb, h1, h2⟩ := I.mod.blt
 exact Calls.Name_function_global I.ok.kind hg (Calls.loadGlobal_builtin (by rw [I.ok.glob]; exact I.mod.glob.keeps I.bk) hm (by rw [I.ok.blt]; exact h1.keeps I.bk) ((h2 x hn).trans hv) h) hd
theorem EJ {x : Str} {v : V} {u : Value} {pos : Pos} (hg : Gl X x) (hm : X.mg x = some u) (r : RelV v u) (hd : (x == ("__debug__" : Str)) = false := by decide) : PE X (.Name x pos) (tC v) :=
 fun _ _ _ H _ I h => kA I hg hm ⟨v, H, I, r, h⟩ hd
theorem rT {x : Str} {v : V} {u : Value} {pos : Pos} (hg : Gl X x) (hm : X.mg x = none) (hv : bootBuiltins x = some u) (r : RelV v u) (hn : x ≠ "__name__" := by decide) (hd : (x == ("__debug__" : Str)) = false := by decide) : PE X (.Name x pos) (tC v) :=
 fun _ _ _ H _ I h => nO I hg hm hv ⟨v, H, I, r, h⟩ hn hd
variable {a b : Expr} {ta tb : TE} {pos : Pos}
def PC (X : Cx) (op : CmpOp) (a b : Expr) (t : TE) : Prop :=
 ∀ (pins : List (Addr × Obj)) (s : Shared) (σ : St) (H : Hp) (Q : VK), Inv X pins σ H s -> t σ H Q ->
  wpAny (model X.prog X.w) X.A (eval a X.env) (fun v s₁ => wpAny (model X.prog X.w) X.A (eval b X.env) (fun u s₂ => wpAny (model X.prog X.w) X.A (compareOp op v u) (EP X pins σ Q) X.xe s₂) X.xe s₁) X.xe s
theorem IJ (b : Expr) {op : CmpOp} (h : op ≠ .In) (h2 : op ≠ .NotIn) : behindInMarks op b = false := by
 have e1 : (op == CmpOp.In) = false := by cases op <;> first | rfl | exact absurd rfl h
 have e2 : (op == CmpOp.NotIn) = false := by cases op <;> first | rfl | exact absurd rfl h2
 cases b <;> simp [behindInMarks, e1, e2]
def tB (t : TE) : TT := fun σ H Q => t σ H fun x H1 => ∃ c, x = .bl c /\ Q c H1
theorem YM {op : CmpOp} {t : TE} (h : PC X op a b t) (h1 : behindInMarks op b = false := by first | exact IJ _ (by decide) (by decide) | rfl) : PT X (.Compare a [op] [b] pos) (tB t) := by
 intro pins s σ H Q I hw
 refine wpAny_isTrue_Compare1 (thn (h pins s σ H _ I hw) fun v s1 h1 => thn h1 fun u s2 h2 => thn h2 fun c s3 ⟨x, H1, I1, r1, q1⟩ => ?_) h1
 obtain ⟨d, rfl, q⟩ := q1
 cases r1
 exact wpAny_truthy_bool ⟨H1, I1, q⟩
theorem YI {e : Expr} {t : TE} (h : PE X e t) (he : ∀ whole, isTrue e X.env whole = (do let v <- whole; standAt e.pos; holding [v] (truthy v)) := by intro _; rfl) : PT X e (tB t) := by
 intro pins s σ H Q I hw
 refine isTrue_plain (thn (h pins s σ H _ I hw) fun v s1 ⟨x, H1, I1, r1, q1⟩ => ?_) (he _)
 obtain ⟨d, rfl, q⟩ := q1
 cases r1
 exact wpAny_truthy_bool ⟨H1, I1, q⟩
variable {tA tB' : TT} {rest : List Expr}
def tOr (t u : TT) : TT := fun σ H Q => t σ H fun c H1 => if c = true then Q true H1 else u σ H1 Q
def aBY (t : TT) : TT := fun σ H Q => t σ H fun c H1 => Q (!c) H1
theorem aBc (ha : PT X a tA) : PW X (.BoolOp .Or [a] pos) tA := by
 intro wh pins s σ H Q I h
 refine isTrue_or (thn (ha pins s σ H Q I h) fun c s1 e => ?_)
 cases c with
 | false => exact isTrue_or_nil e
 | true => exact e
theorem aBV (ha : PT X a tA) (hb : PW X (.BoolOp .Or (b :: rest) pos) tB') : PW X (.BoolOp .Or (a :: b :: rest) pos) (tOr tA tB') := by
 intro wh pins s σ H Q I h
 refine isTrue_or (thn (ha pins s σ H _ I h) fun c s1 ⟨H1, I1, q1⟩ => ?_)
 cases c with
 | true => exact ⟨H1, I1, q1⟩
 | false => exact hb wh pins s1 σ H1 Q I1 q1
theorem WN (ha : PT X a tA) : PT X (.UnaryOp .Not a pos) (aBY tA) := by
 intro pins s σ H Q I h
 exact isTrue_not (ha pins s σ H (fun c H1 => Q (!c) H1) I h)
def VE (ta tb : TE) : TE := fun σ H Q => ta σ H fun x H1 => ∃ c, x = .bl c /\ if c = true then tb σ H1 Q else Q (.bl false) H1
def aCn (ta tb : TE) : TE := fun σ H Q => ta σ H fun x H1 => ∃ c, x = .bl c /\ if c = true then Q (.bl true) H1 else tb σ H1 Q
def VB (ta : TE) : TE := fun σ H Q => ta σ H fun x H1 => ∃ c, x = .bl c /\ Q (.bl (!c)) H1
theorem aAU {op} {t : TE} (h : PE X a t) : PE X (.BoolOp op [a] pos) t := fun pins s σ H Q I hw => BoolOp_one (h pins s σ H Q I hw)
theorem YR (ha : PE X a ta) (hb : PE X (.BoolOp .And (b :: rest) pos) tb) : PE X (.BoolOp .And (a :: b :: rest) pos) (VE ta tb) := by
 intro pins s σ H Q I h
 refine BoolOp_and (thn (ha pins s σ H _ I h) fun v s1 ⟨x, H1, I1, r1, q1⟩ => ?_)
 obtain ⟨c, rfl, q1⟩ := q1
 cases r1
 refine wpAny_truthy_bool ?_
 cases c with
 | true => exact hb pins s1 σ H1 Q I1 q1
 | false => exact ⟨.bl false, H1, I1, rfl, q1⟩
theorem aBm (ha : PE X a ta) (hb : PE X (.BoolOp .Or (b :: rest) pos) tb) : PE X (.BoolOp .Or (a :: b :: rest) pos) (aCn ta tb) := by
 intro pins s σ H Q I h
 refine BoolOp_or (thn (ha pins s σ H _ I h) fun v s1 ⟨x, H1, I1, r1, q1⟩ => ?_)
 obtain ⟨c, rfl, q1⟩ := q1
 cases r1
 refine wpAny_truthy_bool ?_
 cases c with
 | false => exact hb pins s1 σ H1 Q I1 q1
 | true => exact ⟨.bl true, H1, I1, rfl, q1⟩
theorem WZ (ha : PE X a ta) : PE X (.UnaryOp .Not a pos) (VB ta) := by
 intro pins s σ H Q I h
 refine UnaryOp_ (thn (ha pins s σ H _ I h) fun v s1 ⟨x, H1, I1, r1, q1⟩ => ?_)
 obtain ⟨c, rfl, q1⟩ := q1
 cases r1
 exact not_of (wpAny_truthy_bool ⟨.bl (!c), H1, I1, rfl, q1⟩)
def tIf (t : TT) (ta tb : TE) : TE := fun σ H Q => t σ H fun c H1 => if c = true then ta σ H1 Q else tb σ H1 Q
theorem LQ {c : Expr} (hc : PT X c tA) (ha : PE X a ta) (hb : PE X b tb) : PE X (.IfExp c a b pos) (tIf tA ta tb) := by
 intro pins s σ H Q I h
 refine wpAny_IfExp (thn (hc pins s σ H _ I h) fun d s1 ⟨H1, I1, q1⟩ => ?_)
 cases d with
 | true => exact ha pins s1 σ H1 Q I1 q1
 | false => exact hb pins s1 σ H1 Q I1 q1
end
end L2
namespace L2
open PySem PySem.Spec PyProof.Rows
def SqL (K : PySem.W.Frag) (H : Hp) (a : Addr) (xs : List V) : Prop :=
 Rd H a (.lst xs) \/
  ∃ (o : Obj) (its : Array Value) (n : Nat), K.lookup a = some o /\ o.cls = .type "list" /\ o.dict = none /\ o.data = .seq its n /\ its.size <= sizeLine /\ Vals xs its.toList
def SqT (K : PySem.W.Frag) (H : Hp) (a : Addr) (xs : List V) : Prop :=
 Rd H a (.tup xs) \/
  ∃ (o : Obj) (its : Array Value) (n : Nat), K.lookup a = some o /\ o.cls = .type "tuple" /\ o.data = .seq its n /\ its.size <= sizeLine /\ Vals xs its.toList
def aCW : Value -> Option V
 | .none => some .non
 | .bool b => some (.bl b)
 | .int i _ => some (.int i)
 | .str x _ => some (.str x)
 | .bytes b _ => some (.byt b)
 | .float b _ => some (.flt b)
 | .ref a => some (.ref a)
 | .type n => some (.ty n)
 | _ => none
theorem RelV.abs {x : V} {u : Value} (r : RelV x u) : aCW u = some x := by
 cases x with
 | non => cases r; rfl
 | bl _ => cases r; rfl
 | int _ => obtain ⟨t, rfl⟩ := r; rfl
 | str _ => obtain ⟨t, rfl⟩ := r; rfl
 | byt _ => obtain ⟨t, rfl⟩ := r; rfl
 | flt _ => obtain ⟨t, rfl⟩ := r; rfl
 | ref _ => cases r; rfl
 | ty _ => cases r; rfl
theorem RelV.inj {x y : V} {u : Value} (r : RelV x u) (q : RelV y u) : x = y := Option.some.inj (r.abs.symm.trans q.abs)
theorem Vals.inj : ∀ {xs ys : List V} {us : List Value}, Vals xs us -> Vals ys us -> xs = ys
 | _, _, _, .nil, .nil => rfl
 | _, _, _, .cons r t, .cons r' t' => by rw [r.inj r', Vals.inj t t']
section
variable {X : Cx} {pins : List (Addr × Obj)} {σ : St} {H : Hp} {s : Shared} {a : Addr} {xs ys : List V}
theorem SqL.of {K : PySem.W.Frag} (h : H a = some (.lst xs)) : SqL K H a xs := .inl (.inl h)
theorem SqT.of {K : PySem.W.Frag} (h : H a = some (.tup xs)) : SqT K H a xs := .inl (.inl h)
theorem Inv.list (I : Inv X pins σ H s) (h : SqL X.K H a xs) : ∃ its : List Value, Vals xs its /\ PlainL s.heap a its.toArray /\ xs.length <= sizeLine := by
 rcases h with h | ⟨o, its, n, hk, hc, hd, hs, hz, r⟩
 · obtain ⟨z, its, n, r, e⟩ := h.ok I.hok
   exact ⟨its, r, ⟨_, n, e, rfl, rfl, rfl⟩, z⟩
 · refine ⟨its.toList, r, ⟨o, n, I.kIn a o hk, hc, hd, by simpa using hs⟩, ?_⟩
   have e := r.length
   simp only [Array.length_toList] at e
   omega
theorem Inv.tuple (I : Inv X pins σ H s) (h : SqT X.K H a xs) : ∃ its : List Value, Vals xs its /\ IsTup s.heap a its.toArray /\ xs.length <= sizeLine := by
 rcases h with h | ⟨o, its, n, hk, hc, hs, hz, r⟩
 · obtain ⟨z, its, r, p⟩ := h.ok I.hok
   exact ⟨its, r, p, z⟩
 · refine ⟨its.toList, r, ⟨o, I.kIn a o hk, hc, n, by simpa using hs⟩, ?_⟩
   have e := r.length
   simp only [Array.length_toList] at e
   omega
theorem Inv.list_inj (I : Inv X pins σ H s) (h : SqL X.K H a xs) (h' : SqL X.K H a ys) : xs = ys := by
 obtain ⟨its, r, ⟨o, n, e, _, _, d⟩, _⟩ := I.list h
 obtain ⟨its', r', ⟨o', n', e', _, _, d'⟩, _⟩ := I.list h'
 rw [e] at e'; cases e'
 rw [d] at d'
 injection d' with d1 _
 have : its = its' := by simpa using congrArg Array.toList d1
 subst this
 exact r.inj r'
theorem Inv.tuple_inj (I : Inv X pins σ H s) (h : SqT X.K H a xs) (h' : SqT X.K H a ys) : xs = ys := by
 obtain ⟨its, r, ⟨o, e, _, n, d⟩, _⟩ := I.tuple h
 obtain ⟨its', r', ⟨o', e', _, n', d'⟩, _⟩ := I.tuple h'
 rw [e] at e'; cases e'
 rw [d] at d'
 injection d' with d1 _
 have : its = its' := by simpa using congrArg Array.toList d1
 subst this
 exact r.inj r'
end
abbrev Cx.wish (X : Cx) (E : Value -> Shared -> Prop) : Cx := { X with xe := E }
abbrev Cx.nox (X : Cx) : Cx := X.wish fun _ _ => False
theorem Cx.Ok.wish {X : Cx} (ok : X.Ok) (E : Value -> Shared -> Prop) : (X.wish E).Ok :=
 ⟨ok.mod, ok.kind, ok.glob, ok.blt, ok.above, ok.inj, ok.has, ok.cab, ok.hd, ok.frames, ok.stk, ok.exf, ok.bs, ok.bsz, ok.noex, ok.exfs, ok.funs, ok.frf⟩
theorem Cx.Ok.unwish {X : Cx} {E : Value -> Shared -> Prop} (ok : (X.wish E).Ok) : X.Ok :=
 ⟨ok.mod, ok.kind, ok.glob, ok.blt, ok.above, ok.inj, ok.has, ok.cab, ok.hd, ok.frames, ok.stk, ok.exf, ok.bs, ok.bsz, ok.noex, ok.exfs, ok.funs, ok.frf⟩
section
variable {X : Cx} {pins : List (Addr × Obj)} {σ : St} {H : Hp} {s : Shared} {E : Value -> Shared -> Prop}
theorem Inv.wish (I : Inv X pins σ H s) (E : Value -> Shared -> Prop) : Inv (X.wish E) pins σ H s := ⟨I.ok.wish E, I.os, I.bare, I.base, I.loc, I.cell, I.free, I.freeC, I.pin, I.hok, I.len⟩
theorem Inv.unwish (I : Inv (X.wish E) pins σ H s) : Inv X pins σ H s := ⟨I.ok.unwish, I.os, I.bare, I.base, I.loc, I.cell, I.free, I.freeC, I.pin, I.hok, I.len⟩
theorem SP.unwish {D : Ends} {f : Flow} {s' : Shared} (h : SP (X.wish E) pins D f s') : SP X pins D f s' := by
 cases f with
 | next => obtain ⟨σ', H', I, q⟩ := h; exact ⟨σ', H', I.unwish, q⟩
 | brk => obtain ⟨σ', H', I, q⟩ := h; exact ⟨σ', H', I.unwish, q⟩
 | cont => obtain ⟨σ', H', I, q⟩ := h; exact ⟨σ', H', I.unwish, q⟩
 | ret u => obtain ⟨v, σ', H', I, r, q⟩ := h; exact ⟨v, σ', H', I.unwish, r, q⟩
theorem PSs.nox {st : List Stmt} {t : TS} (h : PSs X.nox st t) : PSs X st t := fun pins s σ H D I hw =>
 wpAny_mono (h pins s σ H D (I.wish _) hw) (fun _ _ q => q.unwish) fun _ _ z => False.elim z
end
section
variable {X : Cx} {st : Stmt} {rest : List Stmt} {t u : TS} {e : Expr} {te : TE} {pos : Pos}
def VS : TS := fun D σ H => D.nx σ H
def XR (t u : TS) : TS := fun D σ H => t { D with nx := u D } σ H
theorem UC : PSs X [] VS := fun _ _ σ H _ I h => wpAny_execs_nil ⟨σ, H, I, h⟩
theorem BE (h1 : PS X st t) (h2 : PSs X rest u) : PSs X (st :: rest) (XR t u) := by
 intro pins s σ H D I h
 refine wpAny_execs_cons (thn (h1 pins s σ H { D with nx := u D } I h) fun f s1 q => ?_)
 cases f with
 | next =>
  obtain ⟨σ', H', I', q⟩ := q
  exact h2 pins s1 σ' H' D I' q
 | ret v => exact q
 | brk => exact q
 | cont => exact q
theorem FE (h1 : PS X st t) : PSs X [st] t := by
 intro pins s σ H D I h
 refine wpAny_execs_cons (thn (h1 pins s σ H D I h) fun f s1 q => ?_)
 cases f with
 | next => exact wpAny_execs_nil q
 | ret v => exact q
 | brk => exact q
 | cont => exact q
theorem Inv.quiet {pins : List (Addr × Obj)} {σ : St} {H : Hp} {s : Shared} (I : Inv X pins σ H s) : interactive X.env = false := by simp [interactive, I.ok.kind]
def VQ (te : TE) : TS := fun D σ H => te σ H fun _ H1 => D.nx σ H1
theorem PQ (he : PE X e te) (hs : swapsWith e none pos.line X.env = pure false := by rfl) : PS X (.Expr e pos) (VQ te) := by
 intro pins s σ H D I h
 exact wpAny_Expr_any (thn (he pins s σ H _ I h) fun v s1 ⟨x, H1, I1, r1, q1⟩ => ⟨σ, H1, I1, q1⟩) I.quiet hs
def aBw (te : TE) : TS := fun D σ H => te σ H D.rt
theorem aAM (he : PE X e te) : PS X (.Return (some e) pos) (aBw te) := by
 intro pins s σ H D I h
 exact wpAny_Return_some (thn (he pins s σ H _ I h) fun v s1 ⟨x, H1, I1, r1, q1⟩ => ⟨x, σ, H1, I1, r1, q1⟩)
def aBb (c : TT) (t u : TS) : TS := fun D σ H => c σ H fun b H1 => if b = true then t D σ H1 else u D σ H1
theorem VL {c : Expr} {a b : List Stmt} {tc : TT} (hc : PT X c tc) (ha : PSs X a t) (hb : PSs X b u) : PS X (.If c a b pos) (aBb tc t u) := by
 intro pins s σ H D I h
 refine wpAny_If (thn (hc pins s σ H _ I h) fun d s1 ⟨H1, I1, q1⟩ => ?_)
 cases d with
 | true => exact ha pins s1 σ H1 D I1 q1
 | false => exact hb pins s1 σ H1 D I1 q1
end
abbrev TG := V -> St -> Hp -> (St -> Hp -> Prop) -> Prop
abbrev TGs := List V -> St -> Hp -> (St -> Hp -> Prop) -> Prop
def PG (X : Cx) (target : Expr) (t : TG) : Prop :=
 ∀ (pins : List (Addr × Obj)) (s : Shared) (σ : St) (H : Hp) (v : V) (u : Value) (Q : St -> Hp -> Prop), Inv X pins σ H s -> RelV v u -> t v σ H Q ->
  wpAny (model X.prog X.w) X.A (assign target X.env u) (fun _ s' => ∃ σ' H', Inv X pins σ' H' s' /\ Q σ' H') X.xe s
def PGs (X : Cx) (ts : List Expr) (t : TGs) : Prop :=
 ∀ (pins : List (Addr × Obj)) (s : Shared) (σ : St) (H : Hp) (vs : List V) (us : List Value) (Q : St -> Hp -> Prop), Inv X pins σ H s -> Vals vs us -> t vs σ H Q ->
  wpAny (model X.prog X.w) X.A (assignInOrder ((assignEach ts X.env).map (·.2)) us) (fun _ s' => ∃ σ' H', Inv X pins σ' H' s' /\ Q σ' H') X.xe s
abbrev SU := V -> V -> V -> Hp -> (Hp -> Prop) -> Prop
def YS (X : Cx) (t : SU) : Prop :=
 ∀ (pins : List (Addr × Obj)) (s : Shared) (σ : St) (H : Hp) (o i v : V) (ov iv u : Value) (Q : Hp -> Prop), Inv X pins σ H s -> RelV o ov -> RelV i iv -> RelV v u -> t o i v H Q ->
  wpAny (model X.prog X.w) X.A (setItem ov iv u) (fun _ s' => ∃ H', Inv X pins σ H' s' /\ Q H') X.xe s
section
variable {X : Cx} {pos : Pos}
def zD (i : Nat) : TG := fun v σ H Q => Q (σ.set i (some v)) H
theorem QH {i : Nat} {x : Str} (hN : X.N.Nodup) (hi : X.N[i]? = some x) (hx : Loc X.env.scope x) (hf : X.fn x = true \/ X.env.scope.names.lookup x = some .local := by first | exact .inl rfl | exact .inr rfl | assumption) : PG X (.Name x pos) (zD i) := by
 intro pins s σ H v u Q I r h
 exact wpAny_assign_Name (mC I hN hi hx r (fun s' I' => ⟨_, H, I', h⟩) hf)
def aCc : TGs := fun vs σ H Q => vs = [] /\ Q σ H
def VO (t : TG) (u : TGs) : TGs := fun vs σ H Q => ∃ v r, vs = v :: r /\ t v σ H fun σ' H' => u r σ' H' Q
theorem PF : PGs X [] aCc := by
 intro pins s σ H vs us Q I r h
 obtain ⟨e, h⟩ := h
 subst e
 cases r
 exact assignInOrder_nil ⟨σ, H, I, h⟩
theorem JQ {e : Expr} {es : List Expr} {t : TG} {u : TGs} (h1 : PG X e t) (h2 : PGs X es u)
 (hs : (assignEach (e :: es) X.env).map (·.2) = assign e X.env :: (assignEach es X.env).map (·.2) := by rfl) : PGs X (e :: es) (VO t u) := by
 intro pins s σ H vs us Q I r h
 obtain ⟨v, vr, e1, h⟩ := h
 subst e1
 cases r with
 | cons r rr =>
  rw [hs]
  refine assignInOrder_cons (thn (h1 pins s σ H _ _ _ I r h) fun _ s1 ⟨σ1, H1, I1, q1⟩ => ?_)
  exact h2 pins s1 σ1 H1 _ _ Q I1 rr q1
def aAA (K : PySem.W.Frag) (n : Nat) (t : TGs) : TG := fun v σ H Q => ∃ a xs, v = .ref a /\ SqT K H a xs /\ xs.length = n /\ t xs σ H Q
theorem XN {es : List Expr} {k : Nat} {t : TGs} {n : Nat} (hc : X.calm = true) (h : PGs X es t)
 (hn : (assignEach es X.env).length = n := by rfl) (hst : (assignEach es X.env).findIdx? (·.1) = none := by rfl) : PG X (.Tuple es k pos) (aAA X.K n t) := by
 intro pins s σ H v u Q I r hw
 obtain ⟨a, xs, e1, hq, hl, hw⟩ := hw
 subst e1
 cases r
 obtain ⟨its, rv, ht, hz⟩ := I.tuple hq
 refine assign_Tuple_tuple (I.ok.hd hc) ht (by simp [hn, <- hl, rv.length]) hst fun h' hx => ?_
 have I1 : Inv X pins σ H { s with heap := h' } := I.kept (t' := s.toks) fun b o e => hx b o (Nat.ne_of_lt (Heap.lt_size e)) e
 exact h pins _ σ H xs _ Q I1 (by simpa using rv) hw
def aCk (to ti : TE) (t : SU) : TG := fun v σ H Q => to σ H fun o H1 => ti σ H1 fun i H2 => t o i v H2 fun H3 => Q σ H3
theorem YT {o i : Expr} {to ti : TE} {t : SU} (ho : PE X o to) (hi : PE X i ti) (hs : YS X t)
 (ha : ∀ v, assign (.Subscript o i pos) X.env v = (do
  let ov <- holding [v] (eval o X.env)
  let iv <- holding [v, ov] (eval i X.env)
  standAt pos
  holding [v, ov, iv] (setItem ov iv v)
  release [v, ov, iv] []) := by intro _; rfl) : PG X (.Subscript o i pos) (aCk to ti t) := by
 intro pins s σ H v u Q I r h
 rw [ha]
 refine wpAny_bind (wpAny_holding (thn (ho pins s σ H _ I h) fun ov s1 ⟨x, H1, I1, r1, q1⟩ => ?_))
 refine wpAny_bind (wpAny_holding (thn (hi pins s1 σ H1 _ I1 q1) fun iv s2 ⟨y, H2, I2, r2, q2⟩ => ?_))
 refine wpAny_bind (wpAny_standAt (wpAny_bind (wpAny_holding (thn (hs pins s2 σ H2 x y v ov iv u _ I2 r1 r2 r q2) fun _ s3 ⟨H3, I3, q3⟩ => ?_))))
 exact wpAny_release ⟨σ, H3, I3, q3⟩
def NS (te : TE) (g : TG) : TS := fun D σ H => te σ H fun x H1 => g x σ H1 D.nx
theorem ZT {tg e : Expr} {te : TE} {g : TG} (he : PE X e te) (hg : PG X tg g) (hs : swapsWithSole [tg] e pos.line X.env = pure false := by rfl) (hw : swappedStores [tg] e X.env = pure none := by rfl)
 (h1 : (assignEach [tg] X.env).map (·.2) = [assign tg X.env] := by rfl) : PS X (.Assign [tg] e pos) (NS te g) := by
 intro pins s σ H D I h
 refine wpAny_Assign_stores (thn (he pins s σ H _ I h) fun v s1 ⟨x, H1, I1, r1, q1⟩ => ?_) hs hw
 rw [h1]
 exact thn (hg pins s1 σ H1 x v _ I1 r1 q1) fun _ s2 q => q
theorem OG {i : Nat} {x : Str} {e : Expr} {te : TE} {pos' : Pos} (hN : X.N.Nodup) (hi : X.N[i]? = some x) (hx : Loc X.env.scope x) (he : PE X e te) (hs : swapsWith e (some (.Name x pos')) pos.line X.env = pure false := by rfl) (hf : X.fn x = true \/ X.env.scope.names.lookup x = some .local := by first | exact .inl rfl | exact .inr rfl | assumption) :
 PS X (.Assign [.Name x pos'] e pos) (NS te (zD i)) := by
 intro pins s σ H D I h
 refine wpAny_Assign_Name (thn (he pins s σ H _ I h) fun v s1 ⟨y, H1, I1, r1, q1⟩ => ?_) hs
 exact mC I1 hN hi hx r1 (fun s2 I2 => ⟨_, H1, I2, q1⟩) hf
def aBx (i j : Nat) (ta : TA) : TS := fun D σ H => ta σ H fun vs H1 => ∃ v w, vs = [v, w] /\ D.nx ((σ.set i (some v)).set j (some w)) H1
theorem aAt {i j : Nat} {x y : Str} {a b : Expr} {ta : TA} {px py pt : Pos} {kt k2 pt2} (hc : X.calm = true) (hN : X.N.Nodup) (hi : X.N[i]? = some x) (hj : X.N[j]? = some y) (hij : i ≠ j)
 (hx : X.env.scope.names.lookup x = some .local) (hy : X.env.scope.names.lookup y = some .local) (ha : PA X [a, b] ta)
 (hw : swappedStores [.Tuple [.Name x px, .Name y py] kt pt] (.Tuple [a, b] k2 pt2) X.env = pure (some [x, y]))
 (hs : swapsWithSole [.Tuple [.Name x px, .Name y py] kt pt] (.Tuple [a, b] k2 pt2) pos.line X.env = pure false := by rfl) :
 PS X (.Assign [.Tuple [.Name x px, .Name y py] kt pt] (.Tuple [a, b] k2 pt2) pos) (aBx i j ta) := by
 intro pins s σ H D I h
 rw [exec_Assign_arm]
 refine wpAny_bind (wpAny_standAt ?_)
 rw [hs]
 refine wpAny_bind (wpAny_pure ?_)
 rw [if_neg (by decide)]
 refine wpAny_bind (Tuple_ (thn (ha _ pins s σ H _ I h) fun us s1 ⟨vs, H1, I1, r1, q1⟩ => ?_))
 obtain ⟨v, w, e1, q1⟩ := q1
 subst e1
 obtain ⟨u1, u2, rfl, rv, rw'⟩ : ∃ u1 u2, us = [u1, u2] /\ RelV v u1 /\ RelV w u2 := by
  cases r1 with
  | cons p q =>
   cases q with
   | cons p' q' =>
    cases q'
    exact ⟨_, _, rfl, p, p'⟩
 refine wpAny_newObj_type ?_ (by show 2 <= sizeLine; decide)
 have I2 : Inv X pins σ H1 { s1 with heap := s1.heap.push { cls := .type "tuple", data := .seq [u1, u2].toArray } } := I1.kept (t' := s1.toks) fun b o e => Heap.get?_push_of_some _ e
 rw [hw]
 refine wpAny_bind (wpAny_pure ?_)
 show wpAny (model X.prog X.w) X.A (do rule "assign.swapped-stores"; let items <- unpackItems (.ref s1.heap.objs.size) 2 none; assignInOrder [fun v => bindName X.env y v, fun v => bindName X.env x v] items.reverse; pure Flow.next) _ _ _
 refine wpAny_bind (wpAny_rule (wpAny_bind (unpackItems_tuple (items := #[u1, u2]) (I.ok.hd hc) (IsTup.new s1.heap _) fun h' hx' => ?_)))
 have I3 := I2.kept (h' := h') (t' := s1.toks) fun b o e => hx' b o (Nat.ne_of_lt (Heap.lt_size e)) e
 show wpAny _ _ (assignInOrder [fun v => bindName X.env y v, fun v => bindName X.env x v] [u2, u1] >>= fun _ => pure Flow.next) _ _ _
 refine wpAny_bind (assignInOrder_cons (wpAny_bindName (mC I3 hN hj (.inl hy) rw' (fun s2 I4 => ?_) (.inr hy))))
 refine assignInOrder_cons (wpAny_bindName (mC I4 hN hi (.inl hx) rv (fun s3 I5 => assignInOrder_nil (wpAny_pure ?_)) (.inr hx)))
 rw [List.set_comm _ _ (Ne.symm hij)] at I5
 exact ⟨_, H1, I5, q1⟩
end
section
variable {X : Cx} {pos : Pos}
def KD (c : TT) (tb : TS) : TS := fun D σ H => ∃ W : Nat -> St -> Hp -> Prop, (∃ m, W m σ H) /\ ∀ m σ H, W m σ H ->
 c σ H fun b H1 => if b = true then ∃ N : St -> Hp -> Prop, (∀ σ' H', N σ' H' -> ∃ m', m' < m /\ W m' σ' H') /\ tb { D with nx := N, ct := N, bk := D.nx } σ H1 else D.nx σ H1
theorem NK {c : Expr} {body : List Stmt} {tc : TT} {tb : TS} (hp : PassesOwn (model X.prog X.w) X.A X.env X.xe) (hc : PT X c tc) (hb : PSs X body tb) : PS X (.While c body [] pos) (KD tc tb) := by
 intro pins s σ H D I h
 obtain ⟨W, ⟨m0, w0⟩, turn⟩ := h
 refine wpAny_While (codeAny_whileLoop (fun n s' => ∃ σ' H', Inv X pins σ' H' s' /\ W n σ' H') ?_ m0 ⟨σ, H, I, w0⟩)
 rintro n s1 ⟨σ1, H1, I1, w1⟩
 refine wpAny_passesOwn hp (thn (hc pins s1 σ1 H1 _ I1 (turn n σ1 H1 w1)) fun b s2 ⟨H2, I2, q2⟩ => ?_)
 cases b with
 | true =>
  obtain ⟨N, hN, q2⟩ := q2
  rw [if_pos rfl]
  refine wpAny_passesOwn hp (thn (hb pins s2 σ1 H2 _ I2 q2) fun f s3 q3 => ?_)
  cases f with
  | next =>
   obtain ⟨σ3, H3, I3, n3⟩ := q3
   obtain ⟨m', hm, w3⟩ := hN σ3 H3 n3
   exact ⟨m', hm, σ3, H3, I3, w3⟩
  | cont =>
   obtain ⟨σ3, H3, I3, n3⟩ := q3
   obtain ⟨m', hm, w3⟩ := hN σ3 H3 n3
   exact ⟨m', hm, σ3, H3, I3, w3⟩
  | brk => exact q3
  | ret v => exact q3
 | false =>
  rw [if_neg Bool.false_ne_true]
  exact wpAny_execs_nil ⟨σ1, H2, I2, q2⟩
end
structure It where
 go : Nat -> Hp -> Prop
 yld : Nat -> Hp -> V -> Hp -> Prop
 stop : Nat -> Hp -> Prop
def mS (X : Cx) (pins : List (Addr × Obj)) (H : Hp) (b : Addr) : Prop :=
 H b = none /\ b ≠ X.env.locals /\ b ∉ X.fs /\ (b ∈ X.ex \/ X.s₀.heap.objs.size <= b) /\ (∀ x c, X.env.cells.lookup x = some c -> c ≠ b) /\ ∀ p ∈ X.pn ++ pins, p.1 ≠ b
theorem Inv.fpOk {X : Cx} {pins : List (Addr × Obj)} {σ : St} {H H' : Hp} {s : Shared} {b : Addr} (I : Inv X pins σ H s) (hb : s.heap.objs.size <= b) (hn : H' b = none) : mS X pins H' b := by
 refine ⟨hn, Nat.ne_of_gt (Nat.lt_of_lt_of_le I.lt hb), I.nofs hb, .inr (Nat.le_trans I.sz hb), fun x c e z => ?_, fun p hp z => ?_⟩
 · obtain ⟨v, q⟩ := I.cell x c e
   exact absurd (Nat.lt_of_lt_of_le q.lt (by rw [z]; exact hb)) (Nat.lt_irrefl _)
 · exact absurd (Nat.lt_of_lt_of_le (Heap.lt_size (I.pin p hp).1) (by rw [z]; exact hb)) (Nat.lt_irrefl _)
structure Turn (P : Program) (w : World) (K : PySem.W.Frag) (tg : Expr) (J : It) (fp : List Addr) (it : Addr) (tn : Nat -> Heap -> Prop) : Prop where
 mem : it ∈ fp
 obj : ∀ i h, tn i h -> ∀ b ∈ fp, ∃ o, h.get? b = some o /\ ∀ v, o.data ≠ .cell v
 keep : ∀ i h h', tn i h -> (∀ b ∈ fp, ∀ o, h.get? b = some o -> h'.get? b = some o) -> tn i h'
 item : ∀ (X : Cx), X.prog = P -> X.w = w -> X.K = K -> X.calm = true -> ∀ (i : Nat) (pins : List (Addr × Obj)) (s : Shared) (σ : St) (H : Hp) (E : Value -> Shared -> Prop), Inv X pins σ H s -> (∀ b ∈ fp, mS X pins H b) -> tn i s.heap -> J.go i H ->
  wpAny (model P w) X.A (pyNext (.ref it)) (fun r s1 => ∃ u, r = some u /\
   wpAny (model P w) X.A (letOwnedTupleGo tg (.ref it) u) (fun _ s2 => ∃ x H', Inv X pins σ H' s2 /\ RelV x u /\ J.yld i H x H' /\ tn (i + 1) s2.heap /\ ∀ b ∈ fp, H' b = none) E s1) E s
 done : ∀ (X : Cx), X.prog = P -> X.w = w -> X.K = K -> X.calm = true -> ∀ (i : Nat) (pins : List (Addr × Obj)) (s : Shared) (σ : St) (H : Hp) (E : Value -> Shared -> Prop), Inv X pins σ H s -> (∀ b ∈ fp, mS X pins H b) -> tn i s.heap -> J.stop i H ->
  wpAny (model P w) X.A (pyNext (.ref it)) (fun r s1 => r = none /\ Inv X pins σ H s1) E s
 self : ∀ (A : Around) (i : Nat) (s : Shared) (Q : Value -> Shared -> Prop) (E : Value -> Shared -> Prop), tn i s.heap -> Q (.ref it) s -> wpAny (model P w) A (pyIter (.ref it)) Q E s
abbrev TI := St -> Hp -> (It -> Hp -> Prop) -> Prop
def PIE (X : Cx) (pins : List (Addr × Obj)) (σ : St) (tg : Expr) (R : It -> Hp -> Prop) (itv : Value) (s2 : Shared) : Prop :=
 ∃ (it : Addr) (fp : List Addr) (tn : Nat -> Heap -> Prop) (J : It) (H' : Hp), itv = .ref it /\ Inv X pins σ H' s2 /\ Turn X.prog X.w X.K tg J fp it tn /\ tn 0 s2.heap /\ (∀ b ∈ fp, mS X pins H' b) /\ R J H'
def PI (X : Cx) (tg iter : Expr) (wi : TI) : Prop :=
 ∀ (pins : List (Addr × Obj)) (s : Shared) (σ : St) (H : Hp) (R : It -> Hp -> Prop), Inv X pins σ H s -> wi σ H R ->
  wpAny (model X.prog X.w) X.A (eval iter X.env) (fun v s1 => wpAny (model X.prog X.w) X.A (pyIter v) (PIE X pins σ tg R) X.xe s1) X.xe s
theorem JL {M : Model} {A : Around} {E : Value -> Shared -> Prop} {s : Shared} {tg : Expr} {it : Addr} {u : Value} {o : Obj} {n : String} {vs : Array Value} {Q : Unit -> Shared -> Prop} (ho : s.heap.get? it = some o) (hc : o.cls = .type n) (hd : o.data = .fields vs)
 (hn : ["enumerate", "zip", "dict_itemiterator", "dict_reverseitemiterator", "odict_iterator", "itertools.zip_longest", "itertools.pairwise"].contains n = false) (hQ : Q () s) : wpAny M A (letOwnedTupleGo tg (.ref it) u) Q E s := by
 unfold letOwnedTupleGo
 cases tg <;> first
  | exact wpAny_pure hQ
  | (cases u <;> first
   | exact wpAny_pure hQ
   | (refine wpAny_bind (wpAny_load ho ?_)
      rw [hc, hd]
      show wpAny M A (if (["enumerate", "zip", "dict_itemiterator", "dict_reverseitemiterator", "odict_iterator", "itertools.zip_longest", "itertools.pairwise"].contains n && vs[0]? == some (rawInt _)) = true then _ else _) Q E s
      rw [if_neg (by intro h; rw [hn, Bool.false_and] at h; cases h)]
      exact wpAny_pure hQ))
def Itl (K : PySem.W.Frag) (a : Addr) : It :=
 ⟨fun i H => ∃ xs x, SqL K H a xs /\ xs[i]? = some x, fun i H x H' => H' = H /\ ∀ xs, SqL K H a xs -> xs[i]? = some x, fun i H => ∃ xs, SqL K H a xs /\ xs.length <= i⟩
def Itt (K : PySem.W.Frag) (a : Addr) : It :=
 ⟨fun i H => ∃ xs x, SqT K H a xs /\ xs[i]? = some x, fun i H x H' => H' = H /\ ∀ xs, SqT K H a xs -> xs[i]? = some x, fun i H => ∃ xs, SqT K H a xs /\ xs.length <= i⟩
def Itr (lo : Int) (n : Nat) : It := ⟨fun i _ => i < n, fun i H x H' => H' = H /\ x = .int (lo + i), fun i _ => n <= i⟩
theorem HQ {P : Program} {w : World} {K : PySem.W.Frag} {tg : Expr} (a it : Addr) : Turn P w K tg (Itl K a) [it] it (fun i h => h.IsListIter it a i) where
 mem := by simp
 obj := fun i h st b hb => by
  have e : b = it := by simpa using hb
  subst e
  obtain ⟨o, e, c, d⟩ := st
  exact ⟨o, e, fun v z => by rw [d] at z; cases z⟩
 keep := fun i h h' st k => st.at fun o e => k it (by simp) o e
 item := by
  intro X hP hw hK hc i pins s σ H E I hf st hg
  subst hP hw hK
  obtain ⟨xs, x, hq, hx⟩ := hg
  obtain ⟨its, rv, p, hz⟩ := I.list hq
  obtain ⟨u, hu, ru⟩ := rv.get hx
  obtain ⟨f0, f1, f2, f3, f4, f5⟩ := hf it (by simp)
  refine wpAny_pyNext_list_item st p.isList (x := u) (by simpa using hu) fun h' st' sb => ?_
  have I1 : Inv X pins σ H { s with heap := h' } := I.turned (t' := s.toks) (fun b o hb e => (sb.2 b hb).trans e) f0 f1 f3 f4 f5
  obtain ⟨o, e, c, d⟩ := id st'
  exact ⟨u, rfl, JL (s := { s with heap := h' }) e c d (by decide) ⟨x, H, I1, ru, ⟨rfl, fun ys hy => by rw [I.list_inj hy hq]; exact hx⟩, st', fun b hb => (hf b hb).1⟩⟩
 done := by
  intro X hP hw hK hc i pins s σ H E I hf st hg
  subst hP hw hK
  obtain ⟨xs, hq, hx⟩ := hg
  obtain ⟨its, rv, p, hz⟩ := I.list hq
  obtain ⟨f0, f1, f2, f3, f4, f5⟩ := hf it (by simp)
  have hl := rv.length
  exact wpAny_pyNext_list_end (I.ok.hd hc) st p.isList (by simp; omega) fun h' eb => ⟨rfl, I.turned (t' := s.toks) (fun b o hb e => eb b o hb e) f0 f1 f3 f4 f5⟩
 self := fun _ _ _ _ _ st h => wpAny_pyIter_listiter st h
theorem CN {P : Program} {w : World} {K : PySem.W.Frag} {tg : Expr} (a it : Addr) : Turn P w K tg (Itt K a) [it] it (fun i h => h.IsTupleIter it a i) where
 mem := by simp
 obj := fun i h st b hb => by
  have e : b = it := by simpa using hb
  subst e
  obtain ⟨o, e, c, d⟩ := st
  exact ⟨o, e, fun v z => by rw [d] at z; cases z⟩
 keep := fun i h h' st k => st.at fun o e => k it (by simp) o e
 item := by
  intro X hP hw hK hc i pins s σ H E I hf st hg
  subst hP hw hK
  obtain ⟨xs, x, hq, hx⟩ := hg
  obtain ⟨its, rv, p, hz⟩ := I.tuple hq
  obtain ⟨u, hu, ru⟩ := rv.get hx
  obtain ⟨f0, f1, f2, f3, f4, f5⟩ := hf it (by simp)
  refine wpAny_pyNext_tuple_item st (show s.heap.IsTuple a its.toArray from p) (x := u) (by simpa using hu) fun h' st' sb => ?_
  have I1 : Inv X pins σ H { s with heap := h' } := I.turned (t' := s.toks) (fun b o hb e => (sb.2 b hb).trans e) f0 f1 f3 f4 f5
  obtain ⟨o, e, c, d⟩ := id st'
  exact ⟨u, rfl, JL (s := { s with heap := h' }) e c d (by decide) ⟨x, H, I1, ru, ⟨rfl, fun ys hy => by rw [I.tuple_inj hy hq]; exact hx⟩, st', fun b hb => (hf b hb).1⟩⟩
 done := by
  intro X hP hw hK hc i pins s σ H E I hf st hg
  subst hP hw hK
  obtain ⟨xs, hq, hx⟩ := hg
  obtain ⟨its, rv, p, hz⟩ := I.tuple hq
  obtain ⟨f0, f1, f2, f3, f4, f5⟩ := hf it (by simp)
  have hl := rv.length
  exact wpAny_pyNext_tuple_end (I.ok.hd hc) st (show s.heap.IsTuple a its.toArray from p) (by simp; omega) fun h' eb => ⟨rfl, I.turned (t' := s.toks) (fun b o hb e => eb b o hb e) f0 f1 f3 f4 f5⟩
 self := fun _ _ _ _ _ st h => wpAny_pyIter_tupleiter st h
theorem DF {P : Program} {w : World} {K : PySem.W.Frag} {tg : Expr} (it : Addr) (lo : Int) (n : Nat) : Turn P w K tg (Itr lo n) [it] it (fun i h => IsRangeIter h it (lo + (i : Nat) * 1) ((n : Int) - (i : Nat)) 1) where
 mem := by simp
 obj := fun i h st b hb => by
  have e : b = it := by simpa using hb
  subst e
  exact ⟨_, st, fun v z => by
   have z' : Data.fields _ = Data.cell v := z
   cases z'⟩
 keep := fun i h h' st k => k it (by simp) _ st
 item := by
  intro X hP hw hK hc i pins s σ H E I hf st hg
  subst hP hw hK
  obtain ⟨f0, f1, f2, f3, f4, f5⟩ := hf it (by simp)
  have W := Walks.range (prog := X.prog) (w := X.w) (I.ok.hd hc) it lo 1 n
  refine W.item i s _ _ hg st fun v h' tk hv st' kk => ?_
  obtain ⟨t, rfl⟩ := hv
  have I1 : Inv X pins σ H { s with heap := h', toks := tk } := I.turned (fun b o hb e => kk b o (by simpa using hb) e) f0 f1 f3 f4 f5
  refine ⟨_, rfl, JL (s := { s with heap := h', toks := tk }) (n := "range_iterator") st' rfl rfl (by decide) ⟨.int (lo + i), H, I1, ⟨t, ?_⟩, ⟨rfl, rfl⟩, st', fun b hb => (hf b hb).1⟩⟩
  rw [Int.mul_one]
 done := by
  intro X hP hw hK hc i pins s σ H E I hf st hg
  subst hP hw hK
  obtain ⟨f0, f1, f2, f3, f4, f5⟩ := hf it (by simp)
  exact wpAny_pyNext_range_end (I.ok.hd hc) st (by have : n <= i := hg; omega) fun h' eb => ⟨rfl, I.turned (t' := s.toks) (fun b o hb e => eb b o hb e) f0 f1 f3 f4 f5⟩
 self := fun _ _ _ _ _ st h => wpAny_pyIter_rangeiter st h
end L2
namespace L2
open PySem PySem.Spec PyProof.Rows
section
variable {X : Cx} {tg : Expr}
theorem OL {pins : List (Addr × Obj)} {σ : St} {H : Hp} {s : Shared} {R : It -> Hp -> Prop} {E : Value -> Shared -> Prop} {lo hi : Int} {t u v : Tok} {tk : Nat} (I : Inv X pins σ H s) (h1 : -(2 ^ 62) <= lo) (h2 : lo < 2 ^ 62) (h3 : -(2 ^ 62) <= hi) (h4 : hi < 2 ^ 62)
 (q : R (Itr lo (hi - lo).toNat) H) : wpAny (model X.prog X.w) X.A (pyIter (.ref s.heap.objs.size)) (PIE X pins σ tg R) E { s with heap := s.heap.push { cls := .type "range", data := .fields #[.int lo t, .int hi u, .int 1 v] }, toks := tk } := by
 refine wpAny_pyIter_range (IsRange.new ..) (small_one h1 h2 h3 h4) ?_
 have I1 : Inv X pins σ H { s with heap := s.heap.push { cls := .type "range", data := .fields #[.int lo t, .int hi u, .int 1 v] }, toks := tk } := I.kept fun b o e => Heap.get?_push_of_some _ e
 refine ⟨(s.heap.push { cls := .type "range", data := .fields #[.int lo t, .int hi u, .int 1 v] }).objs.size, [(s.heap.push { cls := .type "range", data := .fields #[.int lo t, .int hi u, .int 1 v] }).objs.size], _, _, H, rfl,
  I1.kept (t' := tk) fun b o e => Heap.get?_push_of_some _ e, DF _ lo (hi - lo).toNat, ?_, fun b hb => ?_, q⟩
 · have e1 : lo + ((0 : Nat) : Int) * 1 = lo := by simp
   have e2 : (((hi - lo).toNat : Nat) : Int) - ((0 : Nat) : Int) = Builtin.Range.rangeSize lo hi 1 := by rw [rangeSize_one]; split <;> omega
   show IsRangeIter _ _ (lo + ((0 : Nat) : Int) * 1) ((((hi - lo).toNat : Nat) : Int) - ((0 : Nat) : Int)) 1
   rw [e1, e2]
   exact Heap.get?_push_size _ rfl
 · have e : b = (s.heap.push { cls := .type "range", data := .fields #[.int lo t, .int hi u, .int 1 v] }).objs.size := by simpa using hb
   subst e
   exact I1.fpOk (Nat.le_refl _) (I1.hok.fresh (Nat.le_refl _))
def UR (ta : TA) : TI := fun σ H R => ta σ H fun vs H1 => ∃ j : Int, vs = [.int j] /\ -(2 ^ 62) <= j /\ j < 2 ^ 62 /\ R (Itr 0 j.toNat) H1
theorem GA {a : Expr} {ta : TA} {p pos : Pos} (hg : Gl X "range") (hm : X.mg "range" = none) (ha : PA X [a] ta) (hs : starEach [a] X.env = [(false, eval a X.env)] := by rfl) : PI X tg (.Call (.Name "range" p) [a] [] pos) (UR ta) := by
 intro pins s σ H R I h
 refine Call_ (nO I hg hm boot_range (PyProof.Rows.callWith_type1 (thn (ha pos pins s σ H _ I h) fun us s1 ⟨vs, H1, I1, r1, q1⟩ => ?_) hs rfl))
 obtain ⟨j, e, q1, q2, q⟩ := q1
 subst e
 cases r1 with
 | cons r rr =>
  cases rr
  obtain ⟨t, rfl⟩ := r
  exact call_range_1 (OL I1 (by omega) (by omega) q1 q2 (by simpa using q))
def XU (wi : TI) (g : TG) (tb : TS) : TS := fun D σ H => wi σ H fun J H1 => ∃ W : Nat -> Nat -> St -> Hp -> Prop, (∃ m, W 0 m σ H1) /\ ∀ i m σ H, W i m σ H ->
 (J.stop i H /\ D.nx σ H) \/ (J.go i H /\ ∃ N : St -> Hp -> Prop, (∀ σ' H', N σ' H' -> ∃ m', m' < m /\ W (i + 1) m' σ' H') /\ ∀ x H', J.yld i H x H' -> g x σ H' fun σ2 H2 => tb { D with nx := N, ct := N, bk := D.nx } σ2 H2)
def pV (fp : List Addr) (h : Heap) : List (Addr × Obj) := fp.filterMap fun b => (h.get? b).map fun o => (b, o)
theorem fX {fp : List Addr} {h : Heap} {b : Addr} {o : Obj} (hb : b ∈ fp) (e : h.get? b = some o) : (b, o) ∈ pV fp h := List.mem_filterMap.mpr ⟨b, hb, by rw [e]; rfl⟩
theorem GE {fp : List Addr} {h : Heap} {p : Addr × Obj} (hp : p ∈ pV fp h) : p.1 ∈ fp /\ h.get? p.1 = some p.2 := by
 obtain ⟨b, hb, e⟩ := List.mem_filterMap.mp hp
 cases q : h.get? b with
 | none => rw [q] at e; cases e
 | some o =>
  rw [q] at e
  have e' : (b, o) = p := Option.some.inj e
  subst e'
  exact ⟨hb, q⟩
theorem Inv.pinned {pins : List (Addr × Obj)} {σ : St} {H : Hp} {s : Shared} {fp : List Addr} (I : Inv X pins σ H s) (hf : ∀ b ∈ fp, mS X pins H b) (ho : ∀ b ∈ fp, ∃ o, s.heap.get? b = some o /\ ∀ v, o.data ≠ .cell v) : Inv X (pins ++ pV fp s.heap) σ H s :=
 I.pins_of fun p hp => (List.mem_append.mp hp).elim (fun z => I.pin p (List.mem_append_right _ z)) fun z => by
  obtain ⟨hb, e⟩ := GE z
  obtain ⟨f0, f1, f2, _⟩ := hf p.1 hb
  obtain ⟨o, e', d⟩ := ho p.1 hb
  rw [e] at e'; cases e'
  exact ⟨e, f0, f1, f2, d⟩
theorem Inv.unpinned {pins pl : List (Addr × Obj)} {σ : St} {H : Hp} {s : Shared} (I : Inv X (pins ++ pl) σ H s) : Inv X pins σ H s := I.pins_of fun p hp => I.pin p (List.mem_append_right _ (List.mem_append_left _ hp))
theorem II {iter : Expr} {body : List Stmt} {wi : TI} {g : TG} {tb : TS} {pos : Pos} (hp : PassesOwn (model X.prog X.w) X.A X.env X.xe) (hc : X.calm = true) (hi : PI X tg iter wi) (hg : PG X tg g) (hb : PSs X body tb)
 (hs : ∀ x, foldedSetIterable iter X.env x = pure x := by intro _; rfl) : PS X (.For tg iter body [] pos) (XU wi g tb) := by
 intro pins s σ H D I h
 refine wpAny_For (thn (hi pins s σ H _ I h) fun v s1 h1 => thn h1 fun itv s2 h2 => ?_) hs
 obtain ⟨it, fp, tn, J, H2, e, I2, T, st2, f2, W, ⟨m0, w0⟩, turn⟩ := h2
 subst e
 have stat : ∀ {H' : Hp}, (∀ b ∈ fp, H' b = none) -> ∀ b ∈ fp, mS X pins H' b := fun hn b hb => ⟨hn b hb, (f2 b hb).2⟩
 refine codeAny_forLoop_any (fun n s' => ∃ i σ' H', Inv X pins σ' H' s' /\ tn i s'.heap /\ (∀ b ∈ fp, H' b = none) /\ W i n σ' H') ?_ m0 ⟨0, σ, H2, I2, st2, fun b hb => (f2 b hb).1, w0⟩
 rintro n s3 ⟨i, σ3, H3, I3, st3, fr3, w3⟩
 rcases turn i n σ3 H3 w3 with ⟨stop, qn⟩ | ⟨go, N, hN, step⟩
 · refine wpAny_passesOwn hp (thn (T.done X rfl rfl rfl hc i pins s3 σ3 H3 X.xe I3 (stat fr3) st3 stop) fun r s4 ⟨hr, I4⟩ => ?_)
   subst hr
   exact wpAny_execs_nil ⟨σ3, H3, I4, qn⟩
 · refine wpAny_passesOwn hp (thn (T.item X rfl rfl rfl hc i pins s3 σ3 H3 X.xe I3 (stat fr3) st3 go) fun r s4 ⟨u, hr, h4⟩ => ?_)
   subst hr
   refine wpAny_passesOwn hp (thn h4 fun _ s5 ⟨x, H5, I5, r5, y5, st5, fr5⟩ => ?_)
   have I5' := I5.pinned (stat fr5) (T.obj _ _ st5)
   refine wpAny_passesOwn hp (thn (hg _ s5 σ3 H5 x u _ I5' r5 (step x H5 y5)) fun _ s6 ⟨σ6, H6, I6, q6⟩ => ?_)
   refine wpAny_passesOwn hp (thn (hb _ s6 σ6 H6 _ I6 q6) fun f s7 q7 => ?_)
   have again : ∀ {σ7 : St} {H7 : Hp}, Inv X (pins ++ pV fp s5.heap) σ7 H7 s7 -> N σ7 H7 -> ∃ m, m < n /\ ∃ i σ' H', Inv X pins σ' H' s7 /\ tn i s7.heap /\ (∀ b ∈ fp, H' b = none) /\ W i m σ' H' := fun {σ7 H7} I7 n7 => by
    obtain ⟨m', hm, w7⟩ := hN σ7 H7 n7
    refine ⟨m', hm, i + 1, σ7, H7, I7.unpinned, T.keep _ _ _ st5 fun b hb o e => (I7.pin (b, o) (List.mem_append_right _ (List.mem_append_right _ (fX hb e)))).1, fun b hb => ?_, w7⟩
    obtain ⟨o, e, d⟩ := T.obj _ _ st5 b hb
    exact (I7.pin (b, o) (List.mem_append_right _ (List.mem_append_right _ (fX hb e)))).2.1
   cases f with
   | next => obtain ⟨σ7, H7, I7, n7⟩ := q7; exact again I7 n7
   | cont => obtain ⟨σ7, H7, I7, n7⟩ := q7; exact again I7 n7
   | brk => obtain ⟨σ7, H7, I7, q7⟩ := q7; exact ⟨σ7, H7, I7.unpinned, q7⟩
   | ret v => obtain ⟨x7, σ7, H7, I7, r7, q7⟩ := q7; exact ⟨x7, σ7, H7, I7.unpinned, r7, q7⟩
end
end L2
namespace L2
open PySem PySem.Spec PyProof.Rows
abbrev R2 := V -> V -> Hp -> VK -> Prop
def OpR (X : Cx) (f : Value -> Value -> Sem Value) (r : R2) : Prop :=
 ∀ (pins : List (Addr × Obj)) (s : Shared) (σ : St) (H : Hp) (x y : V) (v u : Value) (Q : VK), Inv X pins σ H s -> RelV x v -> RelV y u -> r x y H Q ->
  wpAny (model X.prog X.w) X.A (f v u) (EP X pins σ Q) X.xe s
def UnR (X : Cx) (f : Value -> Sem Value) (r : V -> Hp -> VK -> Prop) : Prop :=
 ∀ (pins : List (Addr × Obj)) (s : Shared) (σ : St) (H : Hp) (x : V) (v : Value) (Q : VK), Inv X pins σ H s -> RelV x v -> r x H Q ->
  wpAny (model X.prog X.w) X.A (f v) (EP X pins σ Q) X.xe s
def gV (X : Cx) (f : Value) (r : List V -> Hp -> VK -> Prop) : Prop :=
 ∀ (pins : List (Addr × Obj)) (s : Shared) (σ : St) (H : Hp) (xs : List V) (us : List Value) (Q : VK), Inv X pins σ H s -> Vals xs us -> r xs H Q ->
  wpAny (model X.prog X.w) X.A (call f us) (EP X pins σ Q) X.xe s
def aCV (X : Cx) (r : V -> Hp -> (Bool -> Hp -> Prop) -> Prop) : Prop :=
 ∀ (pins : List (Addr × Obj)) (s : Shared) (σ : St) (H : Hp) (x : V) (v : Value) (Q : Bool -> Hp -> Prop), Inv X pins σ H s -> RelV x v -> r x H Q ->
  wpAny (model X.prog X.w) X.A (truthy v) (TP X pins σ Q) X.xe s
def tOp (r : R2) (ta tb : TE) : TE := fun σ H Q => ta σ H fun x H1 => tb σ H1 fun y H2 => r x y H2 Q
def tUn (r : V -> Hp -> VK -> Prop) (ta : TE) : TE := fun σ H Q => ta σ H fun x H1 => r x H1 Q
def rI (C : Int -> Int -> Prop) (g : Int -> Int -> V) : R2 := fun x y H Q => ∃ i j, x = .int i /\ y = .int j /\ C i j /\ Q (g i j) H
def rI0 (g : Int -> Int -> V) : R2 := fun x y H Q => ∃ i j, x = .int i /\ y = .int j /\ Q (g i j) H
def rU (g : Int -> V) : V -> Hp -> VK -> Prop := fun x H Q => ∃ i, x = .int i /\ Q (g i) H
section
variable {X : Cx} {a b c : Expr} {ta tb tc : TE} {pos : Pos}
theorem XB (ha : PE X a ta) (hb : PE X b tb) {pins : List (Addr × Obj)} {s : Shared} {σ : St} {H : Hp} {R : V -> V -> Hp -> Prop} (I : Inv X pins σ H s)
 (h : ta σ H fun x H1 => tb σ H1 fun y H2 => R x y H2) {Q : Value -> Shared -> Prop} {f : Value -> Value -> Sem Value}
 (hf : ∀ v u s2 x y H2, Inv X pins σ H2 s2 -> RelV x v -> RelV y u -> R x y H2 -> wpAny (model X.prog X.w) X.A (f v u) Q X.xe s2) :
 wpAny (model X.prog X.w) X.A (eval a X.env) (fun v s₁ => wpAny (model X.prog X.w) X.A (eval b X.env) (fun u s₂ => wpAny (model X.prog X.w) X.A (f v u) Q X.xe s₂) X.xe s₁) X.xe s := by
 refine thn (ha pins s σ H _ I h) fun v s1 ⟨x, H1, I1, r1, q1⟩ => ?_
 refine thn (hb pins s1 σ H1 _ I1 q1) fun u s2 ⟨y, H2, I2, r2, q2⟩ => ?_
 exact hf v u s2 x y H2 I2 r1 r2 q2
theorem aCE {op : Operator} {r : R2} (ho : OpR X (binaryOp op) r) (ha : PE X a ta) (hb : PE X b tb) : PE X (.BinOp a op b pos) (tOp r ta tb) := by
 intro pins s σ H Q I h
 exact wpAny_BinOp (XB ha hb I h fun v u s2 x y H2 I2 rx ry q => ho pins s2 σ H2 x y v u Q I2 rx ry q)
theorem aCF {op : UnaryOp} {r : V -> Hp -> VK -> Prop} (ho : UnR X (unaryOp op) r) (ha : PE X a ta) : PE X (.UnaryOp op a pos) (tUn r ta) := by
 intro pins s σ H Q I h
 exact UnaryOp_ (thn (ha pins s σ H _ I h) fun v s1 ⟨x, H1, I1, r1, q1⟩ => ho pins s1 σ H1 x v Q I1 r1 q1)
theorem opI {f : Value -> Value -> Sem Value} {C : Int -> Int -> Prop} {g : Int -> Int -> Int}
 (rule : ∀ (i j : Int) (t u : Tok) (s : Shared) (Q : Value -> Shared -> Prop) (E : Value -> Shared -> Prop), C i j -> Q (.int (g i j) s.toks) { s with toks := s.toks + 1 } -> wpAny (model X.prog X.w) X.A (f (.int i t) (.int j u)) Q E s) :
 OpR X f (rI C fun i j => .int (g i j)) := by
 intro pins s σ H x y v u Q I rx ry h
 obtain ⟨i, j, rfl, rfl, hc, q⟩ := h
 obtain ⟨t, rfl⟩ := rx
 obtain ⟨t', rfl⟩ := ry
 exact rule i j t t' s _ _ hc ⟨.int (g i j), H, I.tok _, ⟨_, rfl⟩, q⟩
theorem aBj {f : Value -> Value -> Sem Value} {g : Int -> Int -> Int}
 (rule : ∀ (i j : Int) (t u : Tok) (s : Shared) (Q : Value -> Shared -> Prop) (E : Value -> Shared -> Prop), Q (.int (g i j) s.toks) { s with toks := s.toks + 1 } -> wpAny (model X.prog X.w) X.A (f (.int i t) (.int j u)) Q E s) :
 OpR X f (rI0 fun i j => .int (g i j)) := by
 intro pins s σ H x y v u Q I rx ry h
 obtain ⟨i, j, rfl, rfl, q⟩ := h
 obtain ⟨t, rfl⟩ := rx
 obtain ⟨t', rfl⟩ := ry
 exact rule i j t t' s _ _ ⟨.int (g i j), H, I.tok _, ⟨_, rfl⟩, q⟩
theorem QJ {f : Value -> Value -> Sem Value} {g : Int -> Int -> Bool}
 (rule : ∀ (i j : Int) (t u : Tok) (s : Shared) (Q : Value -> Shared -> Prop) (E : Value -> Shared -> Prop), Q (.bool (g i j)) s -> wpAny (model X.prog X.w) X.A (f (.int i t) (.int j u)) Q E s) :
 OpR X f (rI0 fun i j => .bl (g i j)) := by
 intro pins s σ H x y v u Q I rx ry h
 obtain ⟨i, j, rfl, rfl, q⟩ := h
 obtain ⟨t, rfl⟩ := rx
 obtain ⟨t', rfl⟩ := ry
 exact rule i j t t' s _ _ ⟨.bl (g i j), H, I, rfl, q⟩
def aCC (i j : Int) : Prop := 0 <= j /\ j <= 1000000 /\ i.natAbs < 2 ^ 64
def CMul (i j : Int) : Prop := (-(2 ^ 64) < i /\ i < 2 ^ 64) \/ (-(2 ^ 64) < j /\ j < 2 ^ 64)
theorem CMul.ok {i j : Int} (h : CMul i j) : IntMulOk i j := by
 rcases h with ⟨h1, h2⟩ | ⟨h1, h2⟩
 · exact .of_left (intBits_le_64 h1 h2)
 · exact .of_right (intBits_le_64 h1 h2)
theorem op_add : OpR X (binaryOp .Add) (rI0 fun i j => .int (i + j)) := aBj fun _ _ _ _ _ _ _ q => add_int q
theorem YK : OpR X (binaryOp .Sub) (rI0 fun i j => .int (i - j)) := aBj fun _ _ _ _ _ _ _ q => sub_int q
theorem aAd : OpR X (binaryOp .Mod) (rI (fun _ j => 0 < j) fun i j => .int (i % j)) := opI fun i j _ _ _ _ _ hc q => by
 have h1 : (0 : Int) < j := hc
 exact mod_int' (by omega) (by rw [Int.fmod_eq_emod_of_nonneg i (by omega)]; exact q)
theorem WE : OpR X (binaryOp .Pow) (rI aCC fun i j => .int (i ^ j.toNat)) := opI fun _ _ _ _ _ _ _ hc q => pow_int_small hc.1 hc.2.1 hc.2.2 q
theorem unI {f : Value -> Sem Value} {g : Int -> Int}
 (rule : ∀ (i : Int) (t : Tok) (s : Shared) (Q : Value -> Shared -> Prop) (E : Value -> Shared -> Prop), Q (.int (g i) s.toks) { s with toks := s.toks + 1 } -> wpAny (model X.prog X.w) X.A (f (.int i t)) Q E s) :
 UnR X f (rU fun i => .int (g i)) := by
 intro pins s σ H x v Q I rx h
 obtain ⟨i, rfl, q⟩ := h
 obtain ⟨t, rfl⟩ := rx
 exact rule i t s _ _ ⟨.int (g i), H, I.tok _, ⟨_, rfl⟩, q⟩
theorem aAv : UnR X (unaryOp .USub) (rU fun i => .int (-i)) := unI fun _ _ _ _ _ q => neg_int q
end
def aCv : V -> V -> Bool
 | .non, .non => true | .non, .int _ => true | .int _, .non => true | .non, .bl _ => true | .bl _, .non => true | .non, .str _ => true | .str _, .non => true
 | .int _, .int _ => true | .bl _, .bl _ => true | .str _, .str _ => true | .byt _, .byt _ => true
 | .int _, .str _ => true | .str _, .int _ => true | .bl _, .str _ => true | .str _, .bl _ => true
 | _, _ => false
def rEq : R2 := fun x y H Q => aCv x y = true /\ Q (.bl (decide (x = y))) H
def rNe : R2 := fun x y H Q => aCv x y = true /\ Q (.bl (!decide (x = y))) H
theorem EC {i j : Int} : decide (V.int i = V.int j) = (i == j) := by
 rw [Bool.eq_iff_iff]
 simp
theorem JT {i j : Bool} : decide (V.bl i = V.bl j) = (i == j) := by
 rw [Bool.eq_iff_iff]
 simp
theorem EA {i j : Str} : decide (V.str i = V.str j) = (i == j) := by
 rw [Bool.eq_iff_iff]
 simp
theorem FJ {i j : Array UInt8} : decide (V.byt i = V.byt j) = (i.toList == j.toList) := by
 rw [Bool.eq_iff_iff]
 cases i
 cases j
 simp
section
variable {X : Cx} {a b c : Expr} {ta tb tc : TE} {pos : Pos}
theorem bQ {pins : List (Addr × Obj)} {σ : St} {H : Hp} {s : Shared} {Q : VK} {k k' : Bool} (I : Inv X pins σ H s) (q : Q (.bl k) H) (e : k = k') : EP X pins σ Q (.bool k') s := by
 subst e
 exact ⟨.bl k, H, I, rfl, q⟩
theorem op_eq : OpR X (compareOp .Eq) rEq := by
 intro pins s σ H x y v u Q I rx ry h
 obtain ⟨hs, q⟩ := h
 cases x with
 | non =>
  cases rx
  cases y with
  | non => cases ry; exact PySem.EqNone.eq_none_none (bQ I q (by simp))
  | bl j => cases ry; exact PySem.EqNone.eq_none_bool (bQ I q (by simp))
  | int j => obtain ⟨t', rfl⟩ := ry; exact PySem.EqNone.eq_none_int (bQ I q (by simp))
  | str j => obtain ⟨t', rfl⟩ := ry; exact PySem.EqNone.eq_none_str (bQ I q (by simp))
  | _ => exact absurd (show false = true from hs) Bool.false_ne_true
 | bl i =>
  cases rx
  cases y with
  | non => cases ry; exact PySem.EqNone.eq_bool_none (bQ I q (by simp))
  | bl j => cases ry; exact eq_bool (bQ I q JT)
  | str j => obtain ⟨t', rfl⟩ := ry; exact PySem.EqMixed.eq_bool_str (bQ I q (by simp))
  | _ => exact absurd (show false = true from hs) Bool.false_ne_true
 | int i =>
  obtain ⟨t, rfl⟩ := rx
  cases y with
  | non => cases ry; exact PySem.EqNone.eq_int_none (bQ I q (by simp))
  | int j => obtain ⟨t', rfl⟩ := ry; exact eq_int (bQ I q EC)
  | str j => obtain ⟨t', rfl⟩ := ry; exact PySem.EqMixed.eq_int_str (bQ I q (by simp))
  | _ => exact absurd (show false = true from hs) Bool.false_ne_true
 | str i =>
  obtain ⟨t, rfl⟩ := rx
  cases y with
  | non => cases ry; exact PySem.EqNone.eq_str_none (bQ I q (by simp))
  | bl j => cases ry; exact PySem.EqMixed.eq_str_bool (bQ I q (by simp))
  | int j => obtain ⟨t', rfl⟩ := ry; exact PySem.EqMixed.eq_str_int (bQ I q (by simp))
  | str j => obtain ⟨t', rfl⟩ := ry; exact eq_str (bQ I q EA)
  | _ => exact absurd (show false = true from hs) Bool.false_ne_true
 | byt i =>
  obtain ⟨t, rfl⟩ := rx
  cases y with
  | byt j => obtain ⟨t', rfl⟩ := ry; exact PySem.W.eq_bytes (bQ I q FJ)
  | _ => exact absurd (show false = true from hs) Bool.false_ne_true
 | _ => cases y <;> exact absurd (show false = true from hs) Bool.false_ne_true
theorem op_ne : OpR X (compareOp .NotEq) rNe := by
 intro pins s σ H x y v u Q I rx ry h
 obtain ⟨hs, q⟩ := h
 cases x with
 | non =>
  cases rx
  cases y with
  | non => cases ry; exact PySem.EqNone.ne_none_none (bQ I q (by simp))
  | bl j => cases ry; exact PySem.EqNone.ne_none_bool (bQ I q (by simp))
  | int j => obtain ⟨t', rfl⟩ := ry; exact PySem.EqNone.ne_none_int (bQ I q (by simp))
  | str j => obtain ⟨t', rfl⟩ := ry; exact PySem.EqNone.ne_none_str (bQ I q (by simp))
  | _ => exact absurd (show false = true from hs) Bool.false_ne_true
 | bl i =>
  cases rx
  cases y with
  | non => cases ry; exact PySem.EqNone.ne_bool_none (bQ I q (by simp))
  | bl j => cases ry; exact ne_bool (bQ I q (congrArg not JT))
  | str j => obtain ⟨t', rfl⟩ := ry; exact PySem.EqMixed.ne_bool_str (bQ I q (by simp))
  | _ => exact absurd (show false = true from hs) Bool.false_ne_true
 | int i =>
  obtain ⟨t, rfl⟩ := rx
  cases y with
  | non => cases ry; exact PySem.EqNone.ne_int_none (bQ I q (by simp))
  | int j => obtain ⟨t', rfl⟩ := ry; exact ne_int (bQ I q (congrArg not EC))
  | str j => obtain ⟨t', rfl⟩ := ry; exact PySem.EqMixed.ne_int_str (bQ I q (by simp))
  | _ => exact absurd (show false = true from hs) Bool.false_ne_true
 | str i =>
  obtain ⟨t, rfl⟩ := rx
  cases y with
  | non => cases ry; exact PySem.EqNone.ne_str_none (bQ I q (by simp))
  | bl j => cases ry; exact PySem.EqMixed.ne_str_bool (bQ I q (by simp))
  | int j => obtain ⟨t', rfl⟩ := ry; exact PySem.EqMixed.ne_str_int (bQ I q (by simp))
  | str j => obtain ⟨t', rfl⟩ := ry; exact ne_str (bQ I q (congrArg not EA))
  | _ => exact absurd (show false = true from hs) Bool.false_ne_true
 | byt i =>
  obtain ⟨t, rfl⟩ := rx
  cases y with
  | byt j => obtain ⟨t', rfl⟩ := ry; exact PySem.W.ne_bytes (bQ I q (congrArg not FJ))
  | _ => exact absurd (show false = true from hs) Bool.false_ne_true
 | _ => cases y <;> exact absurd (show false = true from hs) Bool.false_ne_true
theorem aCG : OpR X (compareOp .Lt) (rI0 fun i j => .bl (decide (i < j))) := QJ fun _ _ _ _ _ _ _ q => lt_int q
theorem aBq : OpR X (compareOp .LtE) (rI0 fun i j => .bl (decide (i <= j))) := QJ fun _ _ _ _ _ _ _ q => le_int q
theorem aCh : OpR X (compareOp .Gt) (rI0 fun i j => .bl (decide (j < i))) := QJ fun _ _ _ _ _ _ _ q => gt_int q
theorem aBX : OpR X (compareOp .GtE) (rI0 fun i j => .bl (decide (j <= i))) := QJ fun _ _ _ _ _ _ _ q => ge_int q
theorem PJ : OpR X (compareOp .IsNot) (fun x y H Q => y = .non /\ Q (.bl (!decide (x = .non))) H) := by
 intro pins s σ H x y v u Q I rx ry h
 obtain ⟨rfl, q⟩ := h
 cases ry
 refine isnot_none_gen (bQ I q ?_)
 cases x <;> first
  | (cases rx; rfl)
  | (obtain ⟨t, rfl⟩ := rx; rfl)
theorem OpR.or {f : Value -> Value -> Sem Value} {r r' : R2} (h : OpR X f r) (h' : OpR X f r') : OpR X f (fun x y H Q => r x y H Q \/ r' x y H Q) := by
 intro pins s σ H x y v u Q I rx ry q
 rcases q with q | q
 · exact h pins s σ H x y v u Q I rx ry q
 · exact h' pins s σ H x y v u Q I rx ry q
theorem SX {op : CmpOp} {r : R2} (ho : OpR X (compareOp op) r) (ha : PE X a ta) (hb : PE X b tb) (hm : behindInMarks op b = false) : PE X (.Compare a [op] [b] pos) (tOp r ta tb) := by
 intro pins s σ H Q I h
 exact wpAny_Compare1 (XB ha hb I h fun v u s2 x y H2 I2 rx ry q => ho pins s2 σ H2 x y v u Q I2 rx ry q) hm
def VT (t : TE) : TT := fun σ H Q => t σ H fun x H' => ∃ k, x = .bl k /\ Q k H'
theorem SQ {op : CmpOp} {r : R2} (ho : OpR X (compareOp op) r) (ha : PE X a ta) (hb : PE X b tb) (hm : behindInMarks op b = false) : PT X (.Compare a [op] [b] pos) (VT (tOp r ta tb)) := by
 intro pins s σ H Q I h
 refine wpAny_isTrue_Compare1 (thn (ha pins s σ H _ I h) fun v s1 ⟨x, H1, I1, r1, q1⟩ => thn (hb pins s1 σ H1 _ I1 q1) fun u s2 ⟨y, H2, I2, r2, q2⟩ =>
  thn (ho pins s2 σ H2 x y v u _ I2 r1 r2 q2) fun c s3 ⟨z, H3, I3, r3, k, e, q3⟩ => ?_) hm
 subst e
 cases r3
 exact wpAny_truthy_bool ⟨H3, I3, q3⟩
def OC (r r' : R2) (ta tb tc : TE) : TE := fun σ H Q => ta σ H fun x H1 => tb σ H1 fun y H2 => r x y H2 fun z H3 => ∃ k, z = .bl k /\
 (if k = true then tc σ H3 fun w' H4 => r' y w' H4 Q else Q (.bl false) H3)
theorem NT {op op' : CmpOp} {r r' : R2} (ho : OpR X (compareOp op) r) (ho' : OpR X (compareOp op') r') (ha : PE X a ta) (hb : PE X b tb) (hc : PE X c tc)
 (hm : lastMarks [op, op'] [b, c] = false := by with_unfolding_all rfl) : PE X (.Compare a [op, op'] [b, c] pos) (OC r r' ta tb tc) := by
 intro pins s σ H Q I h
 refine Compare_chain (thn (ha pins s σ H _ I h) fun v s1 ⟨x, H1, I1, r1, q1⟩ => chain_link (thn (hb pins s1 σ H1 _ I1 q1) fun u s2 ⟨y, H2, I2, r2, q2⟩ =>
  thn (ho pins s2 σ H2 x y v u _ I2 r1 r2 q2) fun d s3 ⟨z, H3, I3, r3, k, e, q3⟩ => ?_)) hm
 subst e
 cases r3
 refine wpAny_truthy_bool ?_
 cases k with
 | false => exact ite_ff ⟨.bl false, H3, I3, rfl, q3⟩
 | true => exact ite_tt (chain_last (thn (hc pins s3 σ H3 _ I3 q3) fun w' s4 ⟨z', H4, I4, r4, q4⟩ => ho' pins s4 σ H4 y z' u w' Q I4 r2 r4 q4))
def TQ (K : PySem.W.Frag) (x : V) (H : Hp) (k : Bool) : Prop :=
 match x with
 | .non => k = false
 | .bl b => k = b
 | .int i => k = (i != 0)
 | .str y => y.length <= sizeLine /\ k = ((y.length : Int) != 0)
 | .byt y => y.size <= sizeLine /\ k = ((y.size : Int) != 0)
 | .ref p => (∃ xs, SqL K H p xs /\ k = !xs.isEmpty) \/ (∃ xs, SqT K H p xs /\ k = !xs.isEmpty) \/ ∃ kvs, H p = some (.dK kvs) /\ k = !kvs.isEmpty
 | _ => False
theorem CT {κ : Type} {kvs : List (κ × V)} {vs : List (κ × Value)} (r : KV kvs vs) : (!vs.isEmpty) = !kvs.isEmpty := by
 cases r <;> rfl
theorem uA {xs : List V} {its : List Value} (r : Vals xs its) : (!its.toArray.isEmpty) = !xs.isEmpty := by
 cases r <;> simp
theorem qG : (sizeLine : Nat) < 2 ^ 63 := by rw [sizeLine_eq]; decide
theorem WR : aCV X (fun x H Q => ∃ k, TQ X.K x H k /\ Q k H) := by
 intro pins s σ H x v Q I rx h
 obtain ⟨k, e, q⟩ := h
 have hl := qG
 have hs : sizeLine = 16777216 := sizeLine_eq
 cases x with
 | non =>
  cases rx
  have e' : k = false := e
  subst e'
  exact truthy_none ⟨H, I, q⟩
 | bl b =>
  cases rx
  have e' : k = b := e
  subst e'
  exact wpAny_truthy_bool ⟨H, I, q⟩
 | int i =>
  obtain ⟨t, rfl⟩ := rx
  have e' : k = (i != 0) := e
  subst e'
  exact PySem.P.truthy_int ⟨H, I, q⟩
 | str y =>
  obtain ⟨t, rfl⟩ := rx
  obtain ⟨hy, e'⟩ : y.length <= sizeLine /\ k = ((y.length : Int) != 0) := e
  subst e'
  exact PySem.P.truthy_str (by omega) ⟨H, I.tok _, q⟩
 | byt y =>
  obtain ⟨t, rfl⟩ := rx
  obtain ⟨hy, e'⟩ : y.size <= sizeLine /\ k = ((y.size : Int) != 0) := e
  subst e'
  exact PySem.W.truthy_bytes (by omega) ⟨H, I.tok _, q⟩
 | ref p =>
  cases rx
  have e' : (∃ xs, SqL X.K H p xs /\ k = !xs.isEmpty) \/ (∃ xs, SqT X.K H p xs /\ k = !xs.isEmpty) \/ ∃ kvs, H p = some (.dK kvs) /\ k = !kvs.isEmpty := e
  rcases e' with ⟨xs, hx, e'⟩ | ⟨xs, hx, e'⟩ | ⟨kvs, hx, e'⟩
  · subst e'
    obtain ⟨its, r, pl, hz⟩ := I.list hx
    have hlen := r.length
    exact wpAny_truthy_list pl.isList (by simp only [List.size_toArray]; omega) ⟨H, I.tok _, by rw [uA r]; exact q⟩
  · subst e'
    obtain ⟨its, r, pl, hz⟩ := I.tuple hx
    have hlen := r.length
    exact truthy_tuple pl (by simp only [List.size_toArray]; omega) ⟨H, I.tok _, by rw [uA r]; exact q⟩
  · subst e'
    obtain ⟨hz, hS, vs, r, m⟩ : kvs.length <= sizeLine /\ (p == sysModules) = false /\ ∃ vs, KV kvs vs /\ s.heap.DictOf (cV X.prog X.w) p vs := I.hok p _ hx
    have hlen : kvs.length = vs.length := Paired.length r
    exact wpAny_truthy_dict hS m (by omega) ⟨H, I.tok _, by rw [CT r]; exact q⟩
 | _ => exact (show False from e).elim
theorem MN (ha : PE X a ta) (he : ∀ whole, isTrue a X.env whole = (do let v <- whole; standAt a.pos; holding [v] (truthy v))) :
 PT X a (fun σ H Q => ta σ H fun x H' => ∃ k, TQ X.K x H' k /\ Q k H') := by
 intro pins s σ H Q I h
 exact isTrue_plain (thn (ha pins s σ H _ I h) fun v s1 ⟨x, H1, I1, r1, q1⟩ => WR pins s1 σ H1 x v Q I1 r1 q1) (he _)
theorem vals1 {x : V} {us : List Value} (r : Vals [x] us) : ∃ u, us = [u] /\ RelV x u := by
 cases r with
 | cons r1 r2 => cases r2; exact ⟨_, rfl, r1⟩
theorem vals2 {x y : V} {us : List Value} (r : Vals [x, y] us) : ∃ u w', us = [u, w'] /\ RelV x u /\ RelV y w' := by
 cases r with
 | cons r1 r2 =>
  cases r2 with
  | cons r3 r4 => cases r4; exact ⟨_, _, rfl, r1, r3⟩
theorem GH : gV X (.type "int") (fun xs H Q => (∃ i, xs = [.int i] /\ Q (.int i) H) \/ ∃ k, xs = [.bl k] /\ Q (.int (if k then 1 else 0)) H) := by
 intro pins s σ H xs us Q I r h
 rcases h with ⟨i, rfl, q⟩ | ⟨k, rfl, q⟩
 · obtain ⟨u, rfl, t, rfl⟩ := vals1 r
   exact call_int_int ⟨.int i, H, I, ⟨_, rfl⟩, q⟩
 · obtain ⟨u, rfl, r1⟩ := vals1 r
   cases r1
   exact call_int_bool ⟨.int (if k then 1 else 0), H, I.tok _, ⟨_, rfl⟩, q⟩
end
end L2
namespace L2
open PySem PySem.Spec PyProof.Rows
structure ObjM (h : Heap) (x dx C : Addr) (mA : Str -> Option Value) : Prop where
 obj : h.get? x = some (PySem.W.instObj C dx)
 ns : h.Ns1 dx mA
 ne : dx ≠ x
theorem wH {h : Heap} {dx : Addr} {mA : Str -> Option Value} (n : h.Ns1 dx mA) : ∃ od, h.get? dx = some od /\ ∀ name, PySem.W.lookIn name od = some (mA name) := by
 obtain ⟨o, es, ep, ho, hd, hk, _, hm⟩ := n
 refine ⟨o, ho, fun name => ?_⟩
 have e := hm name
 unfold nsFind findBy at e
 rw [<- Array.find?_toList] at e
 unfold PySem.W.lookIn
 rw [hd]
 dsimp only
 split
 · rename_i y q
   rw [q] at e
   exact congrArg some e
 · rename_i q
   rw [q] at e
   have a : es.toList.any (·.refKey) = false := by
    rw [List.any_eq_false]
    intro y hy
    obtain ⟨z, t, hkey⟩ := hk y (Array.mem_toList_iff.mp hy)
    simp [DictEntry.refKey, hkey]
   have a' : ¬ es.toList.any (·.refKey) = true := by rw [a]; exact Bool.false_ne_true
   rw [if_neg a']
   exact congrArg some e
theorem ObjM.look {h : Heap} {x dx C : Addr} {mA : Str -> Option Value} (I : ObjM h x dx C mA) : ∃ od, PySem.W.InstAt h x (PySem.W.instObj C dx) C (some od) /\ ∀ name, PySem.W.lookIn name od = some (mA name) :=
 let ⟨od, ho, hl⟩ := wH I.ns
 ⟨od, ⟨I.obj, rfl, rfl, ho⟩, hl⟩
section
variable {prog : Program} {w : World} {A : Around} {E : Value -> Shared -> Prop} {s : Shared} {K : PySem.W.Frag} {x dx C f : Addr} {mA : Str -> Option Value} {name : Str} {v : Value}
theorem get_map {expr : Bool} {Q : Value -> Shared -> Prop} (X : K.In s.heap) (I : ObjM s.heap x dx C mA) (hg : PySem.W.plainGet K C name = true) (hh : PySem.W.hasDictIn K C = true)
 (ha : PySem.W.findIn K (.ref C) name = some none) (hv : mA name = some v) (hv' : PySem.W.handedIn v = true) (h : Q v { s with toks := s.toks + 1 }) :
 wpAny (model prog w) A (getAttr (.ref x) name expr) Q E s := by
 obtain ⟨od, J, hl⟩ := I.look
 exact PySem.W.get_value X J (PySem.W.plainGet_of hg).1 (PySem.W.findObj_own hh ha rfl (by rw [hl, hv])) hv' h
theorem PY {ns : List Str} {Q : Unit -> Shared -> Prop} (X : K.In s.heap) (I : ObjM s.heap x dx C mA)
 (hs : PySem.W.findIn K (.ref C) "__setattr__" = some (some (.builtin "object.__setattr__"))) (hp : PySem.W.plainOver K C = true) (ht : PySem.W.takerIn K C name = some none) (hh : PySem.W.hasDictIn K C = true)
 (hw : PySem.Within mA ns) (hsz : ns.length <= sizeLine)
 (h : ∀ h', ObjM h' x dx C (fun y => if y = name then some v else mA y) -> Heap.SameBut dx s.heap h' -> Q () { s with heap := h', toks := s.toks + 2 }) :
 wpAny (model prog w) A (setAttr (.ref x) name v) Q E s := by
 obtain ⟨od, J, hl⟩ := I.look
 refine PySem.W.set_plain X J hs (PySem.W.osa_open (s := { s with toks := s.toks + 1 }) (r := none) X J hp ht fun b => ?_)
 obtain ⟨cd, hc, hd'⟩ := PySem.W.any_some hh
 have hx : s.heap.get? x = some ⟨.ref C, some dx, .plain, #[]⟩ := I.obj
 refine wpAny_bind (wpAny_pure (wpAny_bind (wpAny_bind (wpAny_loadPart hx (wpAny_bind (PySem.W.Looks.here (s := { s with toks := s.toks + 1 }) (PySem.W.looks_clsIn X hc) ?_))))))
 rw [hd']
 refine wpAny_pure (a := some dx) (wpAny_bind (wpAny_pure (wpAny_bind ?_)))
 refine wpAny_nsSet1 (s := { s with toks := s.toks + 1 }) I.ns fun h' hn2 hs2 => ?_
 obtain ⟨oD, esD, epD, hoD, hdD, hcD⟩ := hn2.count (PySem.Within.cons name v hw)
 refine wpAny_bind (wpAny_lookBehind hoD (by rw [hdD]; exact pastItsLine_dict (Nat.le_trans hcD (by rw [List.length_cons]; omega))) ?_)
 exact wpAny_pure (h _ ⟨(hs2.2 _ (Ne.symm I.ne)).trans I.obj, hn2, I.ne⟩ hs2)
theorem LP {R : Result -> Shared -> Prop} {vs : List Value} {kw : List (Str × Value)} (X : K.In s.heap) (hm : PySem.W.makesIn K C = true)
 (hi : PySem.W.findIn K (.ref C) "__init__" = some (some (.ref f))) (hf : PySem.W.typeIn K (.ref f) = some (.type "function"))
 (h : codeAny (model prog w) (A.under (.builtin "type.__call__" ⟨.ref C :: vs, kw⟩)) (.call (.ref f) ⟨.ref (s.heap.objs.size + 1) :: vs, kw⟩) (PySem.W.InitBack (s.heap.objs.size + 1) R)
  { s with heap := (s.heap.push PySem.W.emptyDict).push (PySem.W.instObj C s.heap.objs.size) }) :
 codeAny (model prog w) A (.call (.ref C) ⟨vs, kw⟩) R s := by
 obtain ⟨hh, g, d, t, os⟩ := s
 exact PySem.W.make_core (PySem.W.makes_of X hm) (PySem.W.looks_findIn X hi) (fun self => PySem.W.bind_fn X self hf) (.inl rfl) h
end
def jJ (f : Str) (v : V) : List (Str × V) -> List (Str × V)
 | [] => [(f, v)]
 | (g, x) :: r => if g = f then (g, v) :: r else (g, x) :: jJ f v r
theorem qY (f g : Str) (v : V) : ∀ fs : List (Str × V), (jJ f v fs).lookup g = if g = f then some v else fs.lookup g
 | [] => by
  show List.lookup g [(f, v)] = _
  by_cases h : g = f
  · have hb : (g == f) = true := beq_iff_eq.mpr h
    simp only [List.lookup, hb, if_pos h]
  · have hb : (g == f) = false := beq_eq_false_iff_ne.mpr h
    simp only [List.lookup, hb, if_neg h]
 | (k, x) :: r => by
  have ih := qY f g v r
  rw [show jJ f v ((k, x) :: r) = (if k = f then (k, v) :: r else (k, x) :: jJ f v r) from rfl]
  by_cases hk : k = f
  · rw [if_pos hk]
    by_cases h : g = k
    · have hb : (g == k) = true := beq_iff_eq.mpr h
      simp only [List.lookup, hb, if_pos (h.trans hk)]
    · have hb : (g == k) = false := beq_eq_false_iff_ne.mpr h
      simp only [List.lookup, hb, if_neg (fun e : g = f => h (e.trans hk.symm))]
  · rw [if_neg hk]
    by_cases h : g = k
    · have hb : (g == k) = true := beq_iff_eq.mpr h
      simp only [List.lookup, hb, if_neg (fun e : g = f => hk (h.symm.trans e))]
    · have hb : (g == k) = false := beq_eq_false_iff_ne.mpr h
      simp only [List.lookup, hb]
      exact ih
theorem pW (f : Str) (v : V) : ∀ fs : List (Str × V), f ∈ (jJ f v fs).map (·.1) /\ ∀ g, g ∈ fs.map (·.1) -> g ∈ (jJ f v fs).map (·.1)
 | [] => ⟨by simp [jJ], fun g h => by simp at h⟩
 | (k, x) :: r => by
  obtain ⟨i1, i2⟩ := pW f v r
  rw [show jJ f v ((k, x) :: r) = (if k = f then (k, v) :: r else (k, x) :: jJ f v r) from rfl]
  by_cases hk : k = f
  · rw [if_pos hk]
    subst hk
    exact ⟨by simp, fun g h => by simpa using h⟩
  · rw [if_neg hk]
    refine ⟨?_, fun g h => ?_⟩
    · rw [List.map_cons]
      exact List.mem_cons_of_mem _ i1
    · rw [List.map_cons] at h ⊢
      rcases List.mem_cons.mp h with e | e
      · exact List.mem_cons.mpr (.inl e)
      · exact List.mem_cons_of_mem _ (i2 g e)
theorem qU (f : Str) (v : V) : ∀ fs : List (Str × V), (jJ f v fs).length <= fs.length + 1
 | [] => by simp [jJ]
 | (k, x) :: r => by
  have ih := qU f v r
  rw [show jJ f v ((k, x) :: r) = (if k = f then (k, v) :: r else (k, x) :: jJ f v r) from rfl]
  by_cases hk : k = f
  · rw [if_pos hk, List.length_cons, List.length_cons]; omega
  · rw [if_neg hk, List.length_cons, List.length_cons]; omega
theorem RelO.some_of {v : V} {o : Option Value} (r : RelO (some v) o) : ∃ u, o = some u /\ RelV v u := by
 cases o with
 | none => exact (show False from r).elim
 | some u => exact ⟨u, rfl, r⟩
theorem vA {v : V} {u : Value} (r : RelV v u) : PySem.W.handedIn u = true := by
 cases v with
 | non => cases (show u = Value.none from r); rfl
 | bl b => cases (show u = Value.bool b from r); rfl
 | int i => obtain ⟨t, e⟩ := (show ∃ t, u = Value.int i t from r); cases e; rfl
 | str x => obtain ⟨t, e⟩ := (show ∃ t, u = Value.str x t from r); cases e; rfl
 | byt b => obtain ⟨t, e⟩ := (show ∃ t, u = Value.bytes b t from r); cases e; rfl
 | flt b => obtain ⟨t, e⟩ := (show ∃ t, u = Value.float b t from r); cases e; rfl
 | ref a => cases (show u = Value.ref a from r); rfl
 | ty n => cases (show u = Value.type n from r); rfl
section
variable {P : Program} {w : World} {H H' : Hp} {h h' : Heap} {a C dx : Addr} {fs fs' : List (Str × V)}
theorem DJ (hok : HOk P w H h) (e : H a = some (.ins C dx fs)) : ∃ mA, ObjM h a dx C mA /\ (∀ f, RelO (fs.lookup f) (mA f)) /\ PySem.Within mA (fs.map (·.1)) /\ fs.length <= 1000 /\ H dx = some (.own a) := by
 obtain ⟨d, z, ne, ob, mA, n, r, q⟩ := (show ObjOk P w H h a (.ins C dx fs) from hok a _ e)
 exact ⟨mA, ⟨ob, n, ne⟩, r, q, z, d⟩
end
structure Cls (K : PySem.W.Frag) (C : Addr) : Prop where
 pg : PySem.W.plainGet K C Str.empty = true
 hd : PySem.W.hasDictIn K C = true
 po : PySem.W.plainOver K C = true
 sa : PySem.W.findIn K (.ref C) "__setattr__" = some (some (.builtin "object.__setattr__"))
theorem Cls.get {K : PySem.W.Frag} {C : Addr} (c : Cls K C) (f : Str) : PySem.W.plainGet K C f = true := c.pg
def NoAttr (K : PySem.W.Frag) (C : Addr) (f : Str) : Prop := PySem.W.findIn K (.ref C) f = some none
theorem NoAttr.taker {K : PySem.W.Frag} {C : Addr} {f : Str} (n : NoAttr K C f) : PySem.W.takerIn K C f = some none := by
 unfold PySem.W.takerIn
 rw [show PySem.W.findIn K (.ref C) f = some none from n]
 rfl
section
variable {X : Cx} {pins : List (Addr × Obj)} {σ : St} {H : Hp} {s : Shared} {a C dx : Addr} {fs : List (Str × V)} {f : Str} {v : V} {A : Around} {E : Value -> Shared -> Prop}
theorem CK {b : Bool} {Q : Value -> Shared -> Prop} (I : Inv X pins σ H s) (e : H a = some (.ins C dx fs)) (c : Cls X.K C) (n : NoAttr X.K C f) (l : fs.lookup f = some v)
 (h : ∀ u s', Inv X pins σ H s' -> RelV v u -> Q u s') : wpAny (model X.prog X.w) A (getAttr (.ref a) f b) Q E s := by
 obtain ⟨mA, O, r, _, _, _⟩ := DJ I.hok e
 obtain ⟨u, hu, ru⟩ := RelO.some_of (v := v) (o := mA f) (by rw [<- l]; exact r f)
 exact get_map I.kIn O (c.get f) c.hd n hu (vA ru) (h u _ (I.tok _) ru)
theorem BQ {y : V} {u : Value} {Q : Unit -> Shared -> Prop} (I : Inv X pins σ H s) (e : H a = some (.ins C dx fs)) (c : Cls X.K C) (n : NoAttr X.K C f) (hl : fs.length < 1000) (ry : RelV y u)
 (h : ∀ s', Inv X pins σ (upd H a (.ins C dx (jJ f y fs))) s' -> Q () s') : wpAny (model X.prog X.w) A (setAttr (.ref a) f u) Q E s := by
 obtain ⟨mA, O, r, wi, _, ho⟩ := DJ I.hok e
 have hz : (fs.map (·.1)).length <= sizeLine := by rw [List.length_map, sizeLine_eq]; omega
 refine PY I.kIn O c.sa c.po n.taker c.hd wi hz fun h' O' sb => h _ ?_
 have hd : ∃ o, h'.get? dx = some o := let ⟨o, _, _, e', _⟩ := O'.ns; ⟨o, e'⟩
 refine I.write (x := a) (e := dx) (by rw [e]; exact True.intro) (.inr ho) (fun b q hb z => (sb.2 b hb).trans z) hd ?_
 refine ⟨by rw [aI O.ne]; exact ho, ?_, O.ne, O'.obj, _, O'.ns, fun g => ?_, fun g hg => ?_⟩
 · have := qU f y fs; omega
 · show RelO ((jJ f y fs).lookup g) (if g = f then some u else mA g)
   rw [qY]
   by_cases q : g = f
   · rw [if_pos q, if_pos q]; exact ry
   · rw [if_neg q, if_neg q]; exact r g
 · by_cases q : g = f
   · rw [q]; exact (pW f y fs).1
   · refine (pW f y fs).2 g (wi g fun z => hg ?_)
     show (if g = f then some u else mA g) = none
     rw [if_neg q]; exact z
theorem Inv.made (I : Inv X pins σ H s) : Inv X pins σ (upd (upd H s.heap.objs.size (.own (s.heap.objs.size + 1))) (s.heap.objs.size + 1) (.ins C s.heap.objs.size []))
 { s with heap := (s.heap.push PySem.W.emptyDict).push (PySem.W.instObj C s.heap.objs.size) } := by
 have e1 : (s.heap.push PySem.W.emptyDict).get? s.heap.objs.size = some PySem.W.emptyDict := Heap.get?_push_size s.heap rfl
 have e2 : ((s.heap.push PySem.W.emptyDict).push (PySem.W.instObj C s.heap.objs.size)).get? (s.heap.objs.size + 1) = some (PySem.W.instObj C s.heap.objs.size) := by
  have := Heap.get?_push_size (s.heap.push PySem.W.emptyDict) (o := PySem.W.instObj C s.heap.objs.size) rfl
  rwa [Heap.size_push] at this
 have e3 : (s.heap.push PySem.W.emptyDict).Ns s.heap.objs.size (fun _ => none) := ⟨PySem.W.emptyDict, #[], _, e1, rfl, (fun e he => absurd he (by simp)), fun _ => rfl⟩
 have I1 := I.laid (a := s.heap.objs.size) (o := .own (s.heap.objs.size + 1)) (h' := s.heap.push PySem.W.emptyDict) (t' := s.toks) (fun b u q => Heap.get?_push_of_some _ q) (Nat.le_refl _) ⟨_, e1⟩
 refine I1.laid (a := s.heap.objs.size + 1) (o := .ins C s.heap.objs.size []) (t' := s.toks) (fun b u q => Heap.get?_push_of_some _ q) (Nat.le_of_eq (Heap.size_push _ _)) ?_
 have ne : s.heap.objs.size ≠ s.heap.objs.size + 1 := Nat.ne_of_lt (Nat.lt_succ_self _)
 refine ⟨by rw [aI ne, aT], Nat.zero_le _, ne, e2, fun _ => none, (Heap.Ns1.of_empty e3).at fun o q => Heap.get?_push_of_some _ q, fun _ => True.intro, fun y hy => absurd rfl hy⟩
theorem EY {prog : Program} {w : World} {env : Env} {e : Expr} {f : Str} {pos : Pos} {s : Shared} {Q : Value -> Shared -> Prop} (hb : attributeBase e f env (eval e env) = eval e env)
 (h : wpAny (model prog w) A (eval e env) (fun o s₁ => wpAny (model prog w) A (getAttr o f true) Q E s₁) E s) : wpAny (model prog w) A (eval (.Attribute e f pos) env) Q E s :=
 Attribute_any_ h (by rw [arm_eval_Attribute, hb])
end
def QP (K : PySem.W.Frag) (ta : TE) (f : Str) : TE := fun σ H Q => ta σ H fun x H1 => ∃ a C dx fs v, x = .ref a /\ H1 a = some (.ins C dx fs) /\ Cls K C /\ NoAttr K C f /\ fs.lookup f = some v /\ Q v H1
def SL (K : PySem.W.Frag) (ta tv : TE) (f : Str) : TS := fun D σ H => tv σ H fun y H1 => ta σ H1 fun x H2 => ∃ a C dx fs, x = .ref a /\ H2 a = some (.ins C dx fs) /\ Cls K C /\ NoAttr K C f /\ fs.length < 1000 /\
 D.nx σ (upd H2 a (.ins C dx (jJ f y fs)))
section
variable {X : Cx} {o e value : Expr} {f : Str} {pos pos' tpos : Pos} {ta tv : TE}
theorem OR (he : PE X e ta) (hb : attributeBase e f X.env (eval e X.env) = eval e X.env) : PE X (.Attribute e f pos) (QP X.K ta f) := by
 intro pins s σ H Q I h
 refine EY hb (thn (he pins s σ H _ I h) fun u s1 ⟨x, H1, I1, rx, a, C, dx, fs, v, ex, ea, c, n, l, q⟩ => ?_)
 subst ex
 obtain rfl : u = Value.ref a := rx
 exact CK I1 ea c n l fun u' s2 I2 ru => ⟨v, H1, I2, ru, q⟩
theorem JA (ha : PE X o ta) (hv : PE X value tv) (hs : swapsWith value (some (.Attribute o f pos')) pos.line X.env = pure false) : PS X (.Assign [.Attribute o f pos'] value pos) (SL X.K ta tv f) := by
 intro pins s σ H D I h
 refine plainObj_wpAny_Assign_Attribute (thn (hv pins s σ H _ I h) fun u s1 ⟨y, H1, I1, ry, q⟩ => thn (ha pins s1 σ H1 _ I1 q) fun ov s2 ⟨x, H2, I2, rx, a, C, dx, fs, ex, ea, c, n, l, q2⟩ => ?_) hs
 subst ex
 obtain rfl : ov = Value.ref a := rx
 exact BQ I2 ea c n l ry fun s3 I3 => ⟨σ, _, I3, q2⟩
end
end L2
namespace L2
open PySem PySem.Spec PyProof.Rows
structure Room (k : Nat) (A : Around) (q : Bool := true) : Prop where
 hd : q = true -> A.handled = none
 dp : A.depth + 3 * k + 5 < recursionLimit
 un : A.units + 16 * k + 200 < cLine
 gd : A.guards = some []
theorem Room.mono {j k : Nat} {A : Around} {q : Bool} (r : Room k A q) (h : j <= k) : Room j A q := ⟨r.hd, by have := r.dp; omega, by have := r.un; omega, r.gd⟩
theorem Room.deeper {k : Nat} {A : Around} {q : Bool} (r : Room (k + 1) A q) (env : Env) : Room k (A.deeper env) q :=
 ⟨r.hd, by have := r.dp; show A.depth + 1 + 3 * k + 5 < _; omega, by have := r.un; show A.units + 3 + 16 * k + 200 < _; omega, r.gd⟩
theorem CF {A : Around} {C : Addr} {us : List Value} {kw : List (Str × Value)} : (A.under (.builtin "type.__call__" ⟨.ref C :: us, kw⟩)).depth = A.depth + 1 := by
 first | rfl | simp [Around.under, Code.weight, Code.isCreation, Code.isGuard, Code.isCaller, Code.frames, Code.isFrame, guardIds]
theorem BL {A : Around} {C : Addr} {us : List Value} {kw : List (Str × Value)} : (A.under (.builtin "type.__call__" ⟨.ref C :: us, kw⟩)).units = A.units + 1 := by
 first | rfl | simp [Around.under, Code.cUnits, Code.frames, Code.isFrame]
theorem yV {A : Around} {C : Addr} {us : List Value} {kw : List (Str × Value)} : (A.under (.builtin "type.__call__" ⟨.ref C :: us, kw⟩)).guards = A.guards := by
 first | rfl | simp [Around.under, Code.guards, pushGuards, Code.isGuard, guardIds] | (unfold Around.under; cases A.guards <;> rfl)
theorem Room.make {k : Nat} {A : Around} {q : Bool} (r : Room (k + 1) A q) (C : Addr) (us : List Value) (kw : List (Str × Value)) : Room k (A.under (.builtin "type.__call__" ⟨.ref C :: us, kw⟩)) q :=
 ⟨r.hd, by have := r.dp; rw [CF]; omega, by have := r.un; rw [BL]; omega, by rw [yV]; exact r.gd⟩
theorem Room.depth {k : Nat} {A : Around} {q : Bool} (r : Room k A q) : A.depth < recursionLimit := by have := r.dp; omega
theorem Room.units {k : Nat} {A : Around} {q : Bool} (r : Room k A q) : A.units + 64 < cLine := by have := r.un; omega
def HN : TA := fun _ H Q => Q [] H
def mI (ta : TE) (tr : TA) : TA := fun σ H Q => ta σ H fun x H1 => tr σ H1 fun xs H2 => Q (x :: xs) H2
section
variable {X : Cx} {e : Expr} {es : List Expr} {te : TE} {t : TA} {pos : Pos}
theorem tO : PA X [] HN := fun _ _ _ _ H Q I h => Calls.spliced_nil ⟨[], H, I, .nil, h⟩
theorem gJ (ha : PE X e te) (hr : PA X es t) (hs : starEach (e :: es) X.env = (false, eval e X.env) :: starEach es X.env := by rfl) : PA X (e :: es) (mI te t) := by
 intro pos pins s σ H Q I h
 rw [hs]
 show wpAny _ _ (spliced ((false, eval e X.env) :: backTo pos (starEach es X.env))) _ _ s
 refine Calls.spliced_cons (thn (ha pins s σ H _ I h) fun u s1 ⟨x, H1, I1, r1, q1⟩ => ?_)
 exact thn (hr pos pins s1 σ H1 _ I1 q1) fun us s2 ⟨xs, H2, I2, r2, q2⟩ => ⟨x :: xs, H2, I2, .cons r1 r2, q2⟩
def JK (t : TA) : TE := fun σ H Q => t σ H fun xs H1 => xs.length <= sizeLine /\ ∀ p, H1 p = none -> Q (.ref p) (upd H1 p (.tup xs))
def ZM (t : TA) : TE := fun σ H Q => t σ H fun xs H1 => xs.length <= sizeLine /\ ∀ p, H1 p = none -> Q (.ref p) (upd H1 p (.lst xs))
theorem wY {x1} (h : PA X es t) : PE X (.Tuple es x1 pos) (JK t) := by
 intro pins s σ H Q I hq
 refine wpAny_Tuple_spliced (thn (h pos pins s σ H _ I hq) fun us s1 ⟨xs, H1, I1, r, z, q⟩ => ⟨by rw [<- r.length]; exact z, ?_⟩)
 have hf : H1 s1.heap.objs.size = none := I1.hok.fresh (Nat.le_refl _)
 refine ⟨.ref s1.heap.objs.size, upd H1 s1.heap.objs.size (.tup xs), I1.laid (t' := s1.toks) (fun b u e => Heap.get?_push_of_some _ e) (Nat.le_refl _) ?_, rfl, q _ hf⟩
 exact ⟨z, us, r, ⟨_, Heap.get?_push_size _ rfl, rfl, _, rfl⟩⟩
theorem OT (h : PA X es t) : PE X (.List es pos) (ZM t) := by
 intro pins s σ H Q I hq
 refine wpAny_List_spliced (thn (h pos pins s σ H _ I hq) fun us s1 ⟨xs, H1, I1, r, z, q⟩ => ⟨by rw [<- r.length]; exact z, ?_⟩)
 have hf : H1 s1.heap.objs.size = none := I1.hok.fresh (Nat.le_refl _)
 refine ⟨.ref s1.heap.objs.size, upd H1 s1.heap.objs.size (.lst xs), I1.laid (t' := s1.toks) (fun b u e => Heap.get?_push_of_some _ e) (Nat.le_refl _) ?_, rfl, q _ hf⟩
 exact ⟨z, us, 0, r, Heap.get?_push_size _ rfl⟩
end
abbrev Sp := List V -> Hp -> VK -> XK -> Prop
abbrev CXT := List Env -> Hp -> Shared -> XK -> Value -> Shared -> Prop
structure Env0 (P : Program) (w : World) (K : PySem.W.Frag) (mg : Str -> Option Value) (base : Heap) (A : Around) (outer : List Env) (s : Shared) (H : Hp) : Prop where
 frames : A.frames = some outer
 mod : Mod K mg base
 bs : ∀ b o, base.get? b = some o -> s.heap.get? b = some o /\ H b = none
 bsz : base.objs.size <= s.heap.objs.size
 funs : s.heap.FunFrames base outer
 frf : ∀ b ∈ frs outer, H b = none
 hok : HOk P w H s.heap
 bare : AllBare s.gens
def CE (outer : List Env) (P : Program) (w : World) (H : Hp) (s : Shared) (Q : VK) (u : Value) (s' : Shared) : Prop :=
 ∃ v H', s'.os = s.os /\ AllBare s'.gens /\ Un (frs outer) [] H H' s.heap s'.heap /\ HOk P w H' s'.heap /\ RelV v u /\ Q v H'
def CR (CX : CXT) (outer : List Env) (P : Program) (w : World) (H : Hp) (s : Shared) (Q : VK) (E : XK) (r : Result) (s' : Shared) : Prop :=
 match r with
 | .ok (.ret u) => CE outer P w H s Q u s'
 | .ok _ => False
 | .error e => CX outer H s E e s'
structure FnOk (P : Program) (w : World) (K : PySem.W.Frag) (mg : Str -> Option Value) (base : Heap) (CX : CXT) (k : Nat) (f : Addr) (fd : FuncData) (ps : List Str) (sp : Sp) (q : Bool := true) : Prop where
 len : ∀ vs H Q E, sp vs H Q E -> vs.length = ps.length
 run : ∀ (A : Around) (outer : List Env) (s : Shared) (H : Hp) (args : Args) (us : List Value) (vs : List V) (Q : VK) (E : XK), Room k A q -> Env0 P w K mg base A outer s H -> BindsTo s fd args (ps.zip us) -> Vals vs us -> sp vs H Q E ->
  codeAny (model P w) A (.call (.ref f) args) (CR CX outer P w H s Q E) s
theorem FnOk.mono {P : Program} {w : World} {K : PySem.W.Frag} {mg : Str -> Option Value} {base : Heap} {CX : CXT} {j k : Nat} {f : Addr} {fd : FuncData} {ps : List Str} {sp : Sp} {q : Bool} (F : FnOk P w K mg base CX j f fd ps sp q) (h : j <= k) :
 FnOk P w K mg base CX k f fd ps sp q := ⟨F.len, fun A outer s H args us vs Q E hr => F.run A outer s H args us vs Q E (hr.mono h)⟩
theorem Env0.make {P : Program} {w : World} {K : PySem.W.Frag} {mg : Str -> Option Value} {base : Heap} {A : Around} {outer : List Env} {s : Shared} {H : Hp} (e : Env0 P w K mg base A outer s H) (C : Addr) (us : List Value) (kw : List (Str × Value)) :
 Env0 P w K mg base (A.under (.builtin "type.__call__" ⟨.ref C :: us, kw⟩)) outer s H := ⟨by first | exact e.frames | (simpa [Around.under, Code.envs, Code.isFrame, pushEnvs] using e.frames), e.mod, e.bs, e.bsz, e.funs, e.frf, e.hok, e.bare⟩
section
variable {X : Cx} {pins : List (Addr × Obj)} {σ : St} {H : Hp} {s s' : Shared}
theorem Inv.env0 (I : Inv X pins σ H s) : Env0 X.prog X.w X.K X.mg X.base X.A X.stack s H :=
 ⟨I.ok.frames, I.ok.mod, I.bs, Nat.le_trans I.ok.bsz I.sz, I.stack, I.stkFree, I.hok, I.bare⟩
theorem Inv.after {Q : VK} {u : Value} (I : Inv X pins σ H s) (h : CE X.stack X.prog X.w H s Q u s') : EP X pins σ Q u s' := by
 obtain ⟨v, H', os, bare, un, hok, r, q⟩ := h
 obtain ⟨hh, g, d, t, os'⟩ := s'
 obtain rfl : os' = s.os := os
 exact ⟨v, H', I.call (h' := hh) (g' := g) (d' := d) (t' := t) (ch := []) un hok bare (fun b z => absurd z (by simp)), r, q⟩
end
def LW (sp : Sp) (dvs : List V) (E : XK) (t : TA) : TE := fun σ H Q => t σ H fun vs H1 => sp (vs ++ dvs) H1 Q E
def aBB (C : Addr) (sp : Sp) (dvs : List V) (E : XK) (t : TA) : TE := fun σ H Q => t σ H fun vs H1 => ∀ x dx, H1 x = none -> H1 dx = none -> dx ≠ x ->
 sp (.ref x :: (vs ++ dvs)) (upd (upd H1 dx (.own x)) x (.ins C dx [])) (fun v H2 => v = .non /\ Q (.ref x) H2) E
def Binds (K : PySem.W.Frag) (fd : FuncData) (ps : List Str) (ds : List Value) : Prop :=
 ∀ (s : Shared) (us : List Value), K.In s.heap -> (us ++ ds).length = ps.length -> BindsTo s fd ⟨us, []⟩ (ps.zip (us ++ ds))
theorem Binds.all {K : PySem.W.Frag} {fd : FuncData} {ps : List Str} (h : ∀ us : List Value, us.length = ps.length -> bindArgs fd ⟨us, []⟩ = pure (ps.zip us)) : Binds K fd ps [] := fun s us _ hl => by
 rw [List.append_nil] at hl ⊢
 exact .of_eq (h us hl)
def BO (CX : CXT) (X : Cx) (E : XK) : Prop := ∀ (pins : List (Addr × Obj)) (σ : St) (H : Hp) (s : Shared) (e : Value) (s' : Shared), Inv X pins σ H s -> CX X.stack H s E e s' -> X.xe e s'
section
variable {X : Cx} {CX : CXT} {k : Nat} {f C : Addr} {fd : FuncData} {ps : List Str} {sp : Sp} {dvs : List V} {ds : List Value} {E : XK} {x m : Str} {p pos apos : Pos} {e o : Expr} {es : List Expr} {ta : TE} {t : TA}
theorem aAz {pins : List (Addr × Obj)} {σ : St} {H : Hp} {s : Shared} {Q : VK} {us : List Value} {vs : List V} {q : Bool} (F : FnOk X.prog X.w X.K X.mg X.base CX k f fd ps sp q) (hr : Room k X.A q) (hb : Binds X.K fd ps ds) (hd : Vals dvs ds) (hx : BO CX X E)
 (I : Inv X pins σ H s) (r : Vals vs us) (h : sp (vs ++ dvs) H Q E) : wpAny (model X.prog X.w) X.A (call (.ref f) us) (EP X pins σ Q) X.xe s := by
 have r2 : Vals (vs ++ dvs) (us ++ ds) := r.append hd
 have hl : (us ++ ds).length = ps.length := by rw [<- r2.length]; exact F.len _ _ _ _ h
 refine wpAny_call (codeAny_mono (F.run X.A X.stack s H ⟨us, []⟩ (us ++ ds) (vs ++ dvs) Q E hr I.env0 (hb s us I.kIn hl) r2 h) fun r s' hq => ?_)
 cases r with
 | error e => exact hx pins σ H s e s' I hq
 | ok fl =>
  cases fl with
  | ret u => exact I.after hq
  | next => exact False.elim hq
  | brk => exact False.elim hq
  | cont => exact False.elim hq
theorem PV {q : Bool} (F : FnOk X.prog X.w X.K X.mg X.base CX k f fd ps sp q) (hr : Room k X.A q) (hg : Gl X x) (hm : X.mg x = some (.ref f)) (hk : PySem.W.keepIn X.K (.ref f) = true) (hb : Binds X.K fd ps ds) (hd : Vals dvs ds) (hx : BO CX X E)
 (ha : PA X (e :: es) t) (hdb : (x == ("__debug__" : Str)) = false := by decide) (he : starEach (e :: es) X.env = (false, eval e X.env) :: starEach es X.env := by rfl) (hpl : (backTo pos (starEach es X.env)).any (·.1) = false := by rfl) :
 PE X (.Call (.Name x p) (e :: es) [] pos) (LW sp dvs E t) := by
 intro pins s σ H Q I h
 refine wpAny_Call_Name_kw (kA I hg hm ?_ hdb)
 refine PySem.W.callWith_K (h₀ := X.base) I.ok.mod.kin hk (thn (ha pos pins s σ H _ I h) fun us s1 ⟨vs, H1, I1, r, q⟩ => ⟨I1.kIn, ?_⟩) he hpl
 exact aAz F hr hb hd hx I1 r q
structure Mk (K : PySem.W.Frag) (C f : Addr) : Prop where
 makes : PySem.W.makesIn K C = true
 init : PySem.W.findIn K (.ref C) "__init__" = some (some (.ref f))
 fn : PySem.W.isFn K (.ref f) = true
 kp : PySem.W.keepIn K (.ref C) = true
theorem IK {pins : List (Addr × Obj)} {σ : St} {H : Hp} {s : Shared} {Q : VK} {us : List Value} {vs : List V} (M : Mk X.K C f) (F : FnOk X.prog X.w X.K X.mg X.base CX k f fd ps sp) (hr : Room (k + 1) X.A) (hb : Binds X.K fd ps ds) (hd : Vals dvs ds)
 (hx : ∀ H s e s', Inv X pins σ H s -> CX X.stack H s E e s' -> X.xe e s') (I : Inv X pins σ H s) (r : Vals vs us)
 (h : ∀ x dx, H x = none -> H dx = none -> dx ≠ x -> sp (.ref x :: (vs ++ dvs)) (upd (upd H dx (.own x)) x (.ins C dx [])) (fun v H2 => v = .non /\ Q (.ref x) H2) E) :
 wpAny (model X.prog X.w) X.A (call (.ref C) us) (EP X pins σ Q) X.xe s := by
 have hq := h (s.heap.objs.size + 1) s.heap.objs.size (I.hok.fresh (Nat.le_succ _)) (I.hok.fresh (Nat.le_refl _)) (Nat.ne_of_lt (Nat.lt_succ_self _))
 have I2 := Inv.made (C := C) I
 have r2 : Vals (V.ref (s.heap.objs.size + 1) :: (vs ++ dvs)) (Value.ref (s.heap.objs.size + 1) :: (us ++ ds)) := .cons rfl (r.append hd)
 have hl : (Value.ref (s.heap.objs.size + 1) :: us ++ ds).length = ps.length := by
  have e := r2.length
  rw [F.len _ _ _ _ hq] at e
  exact e.symm
 refine wpAny_call (LP (f := f) I.kIn M.makes M.init (beq_iff_eq.mp M.fn) (codeAny_mono (F.run _ X.stack _ _ ⟨Value.ref (s.heap.objs.size + 1) :: us, []⟩ (Value.ref (s.heap.objs.size + 1) :: (us ++ ds)) _ _ E (hr.make C us [])
  (I2.env0.make C us []) (hb _ (Value.ref (s.heap.objs.size + 1) :: us) I2.kIn hl) r2 hq) fun r s' hq' => ?_))
 cases r with
 | error e => exact hx _ _ e s' I2 hq'
 | ok fl =>
  cases fl with
  | ret u =>
   obtain ⟨v, H', I3, rv, ev, q3⟩ := I2.after hq'
   subst ev
   exact ⟨rv, ⟨V.ref (s.heap.objs.size + 1), H', I3, rfl, q3⟩⟩
  | next => exact False.elim hq'
  | brk => exact False.elim hq'
  | cont => exact False.elim hq'
end
structure aS (N P : List Str) (sc : Scope) : Prop where
 kind : sc.kind = .function
 co : sc.isCoroutine = false
 gen : sc.isGenerator = false
 nd : N.Nodup
 pre : N.take P.length = P
 par : ∀ x ∈ P, sc.names.lookup x = some .local \/ sc.names.lookup x = some .cell
 nofree : ∀ y ∈ sc.names, y.2 ≠ .free
theorem wA {kindOf : Str -> Option NameKind} {x : Str} : ∀ {binds : List (Str × Value)} {m : Str -> Option Value}, (∀ v, (x, v) ∉ binds) -> bindL kindOf binds m x = m x
 | [], _, _ => rfl
 | (n, v) :: r, m, h => by
  unfold bindL
  rw [wA fun w hw => h w (List.mem_cons_of_mem _ hw)]
  split
  · have : x ≠ n := by rintro rfl; exact h v List.mem_cons_self
    simp [this]
  · rfl
theorem vH {kindOf : Str -> Option NameKind} {x : Str} : ∀ {binds : List (Str × Value)} {m : Str -> Option Value}, (∀ v, (x, v) ∉ binds) -> bindC kindOf binds m x = m x
 | [], _, _ => rfl
 | (n, v) :: r, m, h => by
  unfold bindC
  rw [vH fun w hw => h w (List.mem_cons_of_mem _ hw)]
  split
  · rfl
  · have : x ≠ n := by rintro rfl; exact h v List.mem_cons_self
    simp [this]
theorem wB {kindOf : Str -> Option NameKind} {x : Str} {v : Value} : ∀ {P : List Str} {vs : List Value} {i : Nat} {m : Str -> Option Value}, P.Nodup -> P[i]? = some x -> vs[i]? = some v -> kindOf x = some .local ->
 bindL kindOf (P.zip vs) m x = some v
 | [], _, _, _, _, h, _, _ => by simp at h
 | _ :: _, [], _, _, _, _, h, _ => by simp at h
 | p :: P, w :: vs, 0, m, nd, h1, h2, hk => by
  simp at h1 h2; subst h1; subst h2
  show bindL kindOf ((p, w) :: P.zip vs) m p = _
  unfold bindL
  rw [wA fun v hv => (List.nodup_cons.mp nd).1 (List.of_mem_zip hv).1, if_pos hk]
  simp
 | p :: P, w :: vs, i + 1, m, nd, h1, h2, hk => by
  show bindL kindOf ((p, w) :: P.zip vs) m x = _
  unfold bindL
  exact wB (i := i) (List.nodup_cons.mp nd).2 (by simpa using h1) (by simpa using h2) hk
theorem wM {kindOf : Str -> Option NameKind} {x : Str} {v : Value} : ∀ {P : List Str} {vs : List Value} {i : Nat} {m : Str -> Option Value}, P.Nodup -> P[i]? = some x -> vs[i]? = some v -> kindOf x ≠ some .local ->
 bindC kindOf (P.zip vs) m x = some v
 | [], _, _, _, _, h, _, _ => by simp at h
 | _ :: _, [], _, _, _, _, h, _ => by simp at h
 | p :: P, w :: vs, 0, m, nd, h1, h2, hk => by
  simp at h1 h2; subst h1; subst h2
  show bindC kindOf ((p, w) :: P.zip vs) m p = _
  unfold bindC
  rw [vH fun v hv => (List.nodup_cons.mp nd).1 (List.of_mem_zip hv).1, if_neg hk]
  simp
 | p :: P, w :: vs, i + 1, m, nd, h1, h2, hk => by
  show bindC kindOf ((p, w) :: P.zip vs) m x = _
  unfold bindC
  exact wM (i := i) (List.nodup_cons.mp nd).2 (by simpa using h1) (by simpa using h2) hk
def start (N : List Str) (vs : List V) : St := vs.map some ++ List.replicate (N.length - vs.length) none
def jB (CX : CXT) (P : Program) (w : World) (K : PySem.W.Frag) (mg : Str -> Option Value) (base : Heap) (N : List Str) (qual : Str) (scope : Scope) (f : Addr) (cd : Value) (A : Around) (outer : List Env) (s : Shared) (H : Hp) (E : XK) (q : Bool := true) : Cx where
 prog := P
 w := w
 K := K
 mg := mg
 base := base
 A := A.deeper (envOfC qual scope s.heap.objs.size f cd)
 N := N
 s₀ := s
 H₀ := H
 env := envOfC qual scope s.heap.objs.size f cd
 outer := outer
 stack := envOfC qual scope s.heap.objs.size f cd :: outer
 ex := []
 calm := q
 fn := fun _ => true
 pn := []
 xe := fun e s' => wpAny (model P w) (A.deeper (envOfC qual scope s.heap.objs.size f cd)) (leaving (envOfC qual scope s.heap.objs.size f cd) e) (fun _ s'' => CX outer H s E e s'') (fun e' s'' => CX outer H s E e' s'') s'
theorem zZ {sc : Scope} {n : Nat} {x : Str} (h : sc.names.lookup x = some .cell) : ∃ c, (cellsFrom n sc.names []).lookup x = some c := by
 have q := PySem.W.cellsFrom_some sc.names n [] (.inl h)
 exact Option.isSome_iff_exists.mp q
theorem HC {CX : CXT} {P : Program} {w : World} {K : PySem.W.Frag} {mg : Str -> Option Value} {base : Heap} {N ps : List Str} {qual : Str} {scope : Scope} {f : Addr} {cd : Value} {A : Around} {outer : List Env} {s s1 : Shared} {H : Hp} {E : XK} {us : List Value} {vs : List V} {q : Bool}
 (S : aS N ps scope) (hd : q = true -> A.handled = none) (e0 : Env0 P w K mg base A outer s H) (hl : vs.length = ps.length) (r : Vals vs us)
 (x : InCallC s s.heap.objs.size (bindL (envOfC qual scope s.heap.objs.size f cd).kindOf (ps.zip us) fun _ => none) (cellsFrom (s.heap.objs.size + 1) scope.names []) (bindC (envOfC qual scope s.heap.objs.size f cd).kindOf (ps.zip us) fun _ => none) s1) :
 Inv (jB CX P w K mg base N qual scope f cd A outer s H E q) [] (start N vs) H s1 := by
 have hpl : ps.length <= N.length := by have := congrArg List.length S.pre; rw [List.length_take] at this; omega
 obtain ⟨h1, tk, rfl, hk⟩ := x.done
 have noA : ∀ b : Addr, b ∉ (jB CX P w K mg base N qual scope f cd A outer s H E q).ex := fun b z => absurd (show b ∈ ([] : List Addr) from z) (by simp)
 refine ⟨⟨e0.mod, S.kind, rfl, rfl, Nat.le_refl _, fun y z c h1 h2 => ?_, fun y hy => ?_, fun y c _ h => ?_, hd, Around.frames_deeper e0.frames, .inr ⟨rfl, rfl⟩, fun b z => absurd z (noA b), e0.bs, e0.bsz, fun b _ _ => noA b, fun b z => absurd z (noA b), e0.funs, e0.frf⟩,
  rfl, e0.bare, Un.kept hk, ⟨_, x.toInCall.ns, fun i y v h1 h2 h3 => ?_⟩, fun y c h => ⟨_, x.cell y c h⟩, e0.hok.fresh (Nat.le_refl _), fun y c h => ?_, fun p hp => absurd (show p ∈ ([] : List (Addr × Obj)) from hp) (by simp), e0.hok.kept hk, ?_⟩
 · exact name_of_addr x.apart (PySem.mem_of_lookup h1) (PySem.mem_of_lookup h2)
 · have hy : scope.names.lookup y = some .cell \/ scope.names.lookup y = some .free := hy
   rcases hy with hy | hy
   · exact zZ hy
   · exact absurd rfl (S.nofree _ (PySem.mem_of_lookup hy))
 · exact Nat.le_of_lt (x.above y c (PySem.mem_of_lookup h))
 · have hi : i < vs.length := by
    unfold start at h2
    by_cases hi : i < vs.length
    · exact hi
    · rw [List.getElem?_append_right (by simpa using hi)] at h2
      rw [List.getElem?_replicate] at h2
      split at h2 <;> cases h2
   have ha : vs[i]? = some v := by
    unfold start at h2
    rw [List.getElem?_append_left (by simpa using hi), List.getElem?_map] at h2
    cases e : vs[i]? with
    | none => rw [e] at h2; cases h2
    | some a => rw [e] at h2; cases h2; rfl
   obtain ⟨u, hu, rv⟩ := r.get ha
   have hp : ps[i]? = some y := by
    rw [<- S.pre, List.getElem?_take_of_lt (by omega)]; exact h1
   have ndP : ps.Nodup := by rw [<- S.pre]; exact S.nd.sublist (List.take_sublist _ _)
   refine ⟨u, rv, ?_⟩
   rcases S.par y (List.mem_of_getElem? hp) with k | k
   · exact .inl ⟨k, wB ndP hp hu k⟩
   · obtain ⟨c, e⟩ := zZ (n := s.heap.objs.size + 1) k
     refine .inr ⟨.inl k, c, e, ?_⟩
     have q := x.cell y c e
     rw [wM ndP hp hu (by show scope.names.lookup y ≠ _; rw [k]; decide)] at q
     exact q
 · exact e0.hok.fresh (Nat.le_of_lt (x.above y c (PySem.mem_of_lookup h)))
 · unfold start
   show _ = N.length
   rw [List.length_append, List.length_map, List.length_replicate]
   omega
theorem VR {CX : CXT} {P : Program} {w : World} {K : PySem.W.Frag} {mg : Str -> Option Value} {base : Heap} {k : Nat} {f : Addr} {name qual : Str} {params : Arguments} {body : List Stmt} {scope : Scope} {dV kV doc pm cdv ct oc : Value} {an od : Option Addr}
 {osl : Array (Option Value)} {N ps : List Str} {sp : Sp} {q : Bool} (lk : K.lookup f = some ⟨oc, od, .func (PySem.W.fnOf name qual params body scope dV kV doc pm an cdv ct), osl⟩) (hcd : PySem.W.codeIn K cdv qual = true) (S : aS N ps scope)
 (len : ∀ vs H Q E, sp vs H Q E -> vs.length = ps.length)
 (hbody : ∀ (A : Around) (outer : List Env) (s : Shared) (H : Hp) (vs : List V) (Q : VK) (E : XK), Room k (A.deeper (envOfC qual scope s.heap.objs.size f cdv)) q -> sp vs H Q E ->
  ∃ t, PSs (jB CX P w K mg base N qual scope f cdv A outer s H E q) body t /\ t { nx := fun _ H' => Q .non H', rt := Q } (start N vs) H) :
 FnOk P w K mg base CX (k + 1) f (PySem.W.fnOf name qual params body scope dV kV doc pm an cdv ct) ps sp q := by
 refine ⟨len, fun A outer s H args us vs Q E hr e0 hb r hsp => ?_⟩
 have hl := len _ _ _ _ hsp
 have KX : K.In s.heap := e0.mod.kin.keeps fun b o e => (e0.bs b o e).1
 have lim : s.heap.NoLimit := e0.mod.nolimit.keeps fun b o e => (e0.bs b o e).1
 have hkind : ∀ y ∈ ps.zip us, scope.names.lookup y.1 = some .local \/ (scope.names.lookup y.1 = some .cell /\ ((cellsFrom (s.heap.objs.size + 1) scope.names []).lookup y.1).isSome = true) := fun ⟨n, v⟩ hy => by
  rcases S.par n (List.of_mem_zip hy).1 with q | q
  · exact .inl q
  · exact .inr ⟨q, PySem.W.cellsFrom_some _ _ _ (.inl q)⟩
 refine codeAny_call_function hr.depth (KX _ _ lk) rfl S.co S.gen rfl (PySem.W.codeRec_of KX hcd) (hb _ _ _ _ ?_)
 refine wpAny_newFunctionEnv_cells S.kind hkind fun env he s1 x => ?_
 subst he
 refine ⟨lim.keeps x.toInCall.keep, codeAny_func ?_⟩
 obtain ⟨t, ht, hq⟩ := hbody A outer s H vs Q E (hr.deeper _) hsp
 have I : Inv (jB CX P w K mg base N qual scope f cdv A outer s H E q) [] (start N vs) H s1 := HC S hr.hd e0 hl r x
 refine wpAny_mono (ht [] s1 (start N vs) H _ I hq) (fun fl s' hs => ?_) fun e s' hs => hs
 have fin : ∀ {σ' : St} {H' : Hp} {v : V} {u : Value}, Inv (jB CX P w K mg base N qual scope f cdv A outer s H E q) [] σ' H' s' -> RelV v u -> Q v H' -> CE outer P w H s Q u s' :=
  fun {σ' H' v u} J rv q => ⟨v, H', J.os, J.bare, J.base, J.hok, rv, q⟩
 cases fl with
 | ret u =>
  obtain ⟨v, σ', H', J, rv, q⟩ := hs
  exact fin J rv q
 | next =>
  obtain ⟨σ', H', J, q⟩ := hs
  exact fin (v := V.non) (u := Value.none) J rfl q
 | brk =>
  obtain ⟨_, _, _, q⟩ := hs
  exact False.elim q
 | cont =>
  obtain ⟨_, _, _, q⟩ := hs
  exact False.elim q
end L2
namespace L2
open PySem PySem.Spec PyProof.Rows
section
variable {X : Cx} {x : Str} {p pos : Pos} {e : Expr} {es : List Expr} {t : TA} {id T : String} {r : List V -> Hp -> VK -> Prop}
def tCB (r : List V -> Hp -> VK -> Prop) (t : TA) : TE := fun σ H Q => t σ H fun vs H1 => r vs H1 Q
theorem pD (hc : gV X (.builtin id) r) (hg : Gl X x) (hm : X.mg x = none) (hv : bootBuiltins x = some (.builtin id)) (ha : PA X (e :: es) t) (hn : x ≠ "__name__" := by decide) (hdb : (x == ("__debug__" : Str)) = false := by decide)
 (he : starEach (e :: es) X.env = (false, eval e X.env) :: starEach es X.env := by rfl) (hpl : (backTo pos (starEach es X.env)).any (·.1) = false := by rfl) : PE X (.Call (.Name x p) (e :: es) [] pos) (tCB r t) := by
 intro pins s σ H Q I h
 refine wpAny_Call_Name_kw (nO I hg hm hv ?_ hn hdb)
 exact PyProof.Rows.callWith_builtin1 (thn (ha pos pins s σ H _ I h) fun us s1 ⟨vs, H1, I1, r1, q1⟩ => hc pins s1 σ H1 vs us Q I1 r1 q1) he hpl
theorem HU (hc : gV X (.type T) r) (hg : Gl X x) (hm : X.mg x = none) (hv : bootBuiltins x = some (.type T)) (ha : PA X (e :: es) t) (hn : x ≠ "__name__" := by decide) (hdb : (x == ("__debug__" : Str)) = false := by decide)
 (he : starEach (e :: es) X.env = (false, eval e X.env) :: starEach es X.env := by rfl) (hpl : (backTo pos (starEach es X.env)).any (·.1) = false := by rfl) : PE X (.Call (.Name x p) (e :: es) [] pos) (tCB r t) := by
 intro pins s σ H Q I h
 refine wpAny_Call_Name_kw (nO I hg hm hv ?_ hn hdb)
 exact PyProof.Rows.callWith_type1 (thn (ha pos pins s σ H _ I h) fun us s1 ⟨vs, H1, I1, r1, q1⟩ => hc pins s1 σ H1 vs us Q I1 r1 q1) he hpl
end
end L2
namespace HT
open PySem PyProof.Rows
def lexLt : List Int -> List Int -> Bool
 | [], [] => false
 | [], _ :: _ => true
 | _ :: _, [] => false
 | x :: xs, y :: ys => if x = y then lexLt xs ys else decide (x < y)
theorem BW (x y : Int) (xs ys : List Int) : lexLt (x :: xs) (y :: ys) = if x = y then lexLt xs ys else decide (x < y) := rfl
theorem uS : lexLt [] [] = false := rfl
theorem uD (y : Int) (ys : List Int) : lexLt [] (y :: ys) = true := rfl
theorem tF (x : Int) (xs : List Int) : lexLt (x :: xs) [] = false := rfl
theorem JR (A : Around) (s : Shared) (a : Int) (t : Tok) (c : Int) (u : Tok) : ∃ e, SeqAt.EqAt A s (.int a t) (.int c u) e /\ (e = true ↔ a = c) :=
 ⟨(a == c), SeqAt.EqAt.int_int a t c u, by simp⟩
theorem JN (A : Around) (s : Shared) (a : Int) (t : Tok) (c : Int) (u : Tok) (prog : Program) (w : World) (E : Value -> Shared -> Prop) (Q : Value -> Shared -> Prop) (h : Q (.bool (decide (a < c))) s) :
 wpAny (model prog w) A (richCompare .Lt (.int a t) (.int c u)) Q E s :=
 (PyProof.Rows.lt_int h : wpAny (model prog w) A (compareOp .Lt (.int a t) (.int c u)) Q E s)
section
open PySem.SeqAt
open PySem.AutoSeq1 (wpAny_loadPart')
open PySem.MeetsSeq PySem.MeetsSeq2 PySem.MeetsSeq3
theorem uU (l b : Addr) (items items2 : Array Value) (n n2 : Nat) (dd dd2 : Option Addr) (sl sl2 : Array (Option Value)) (ns ms : List Int) (hi : IntsAre items.toList ns) (hj : IntsAre items2.toList ms) :
 Meets (Builtin.«tuple.__lt__» ⟨[.ref l, .ref b], []⟩)
  (fun _ R s => s.heap.get? l = some { cls := .type "tuple", dict := dd, data := .seq items n, slots := sl } /\ s.heap.get? b = some { cls := .type "tuple", dict := dd2, data := .seq items2 n2, slots := sl2 } /\
   R (.ok (.ret (.bool (lexLt ns ms)))) s) :=
 .of_wp fun prog w A R s h => by
  obtain ⟨hp, g, d, tk, os⟩ := s; obtain ⟨hl, hb, h⟩ := h
  have f2 := AutoSeq1.sub_tuple_tuple
  have z1 : items.size = ns.length := by rw [<- hi.length]; simp
  have z2 : items2.size = ms.length := by rw [<- hj.length]; simp
  wp_walk using wpAny_loadPart' hl, wpAny_loadPart' hb, wpAny_forIn_list _ (fun rest b s' => b.1 = none /\ s' = ⟨hp, g, d, tk, os⟩ /\ ∃ (vs ws : List Value) (ns' ms' : List Int), rest = vs.zip ws /\
   IntsAre vs ns' /\ IntsAre ws ms' /\ ns'.length + items2.size = ms'.length + items.size /\ R (.ok (.ret (.bool (lexLt ns' ms')))) ⟨hp, g, d, tk, os⟩) _
  case turn =>
   rintro ⟨y, x⟩ rest b s' ⟨hb', rfl, vs, ws, ns', ms', hz, hvi, hwi, hlen, hR⟩
   cases hvi with
   | nil => rw [List.zip_nil_left] at hz; cases hz
   | cons a t hvi' =>
    cases hwi with
    | nil => rw [List.zip_nil_right] at hz; cases hz
    | cons c u hwi' =>
     rw [List.zip_cons_cons] at hz
     injection hz with hyx hrest
     injection hyx with hy hx
     subst hy hx
     rw [BW] at hR
     simp only [List.length_cons] at hlen
     obtain ⟨e, he, hiff⟩ := JR A.in1 ⟨hp, g, d, tk, os⟩ a t c u
     refine wpAny_bind (he prog w _ _ ?_)
     cases e with
     | true =>
      rw [if_pos (hiff.mp rfl)] at hR
      wp_walk
      exact ⟨rfl, rfl, _, _, _, _, hrest, hvi', hwi', by omega, hR⟩
     | false =>
      rw [if_neg (fun q => absurd (hiff.mpr q) Bool.false_ne_true)] at hR
      have hri := JN A.in1 ⟨hp, g, d, tk, os⟩ a t c u prog w
      wp_walk using hri
      exact ⟨_, rfl, by simpa using hR⟩
  case fin =>
   rintro ⟨b1, b2⟩ s' ⟨hb', rfl, vs, ws, ns', ms', hz, hvi, hwi, hlen, hR⟩
   simp only at hb'
   subst hb'
   have hv : lexLt ns' ms' = decide (items.size < items2.size) := by
    cases hvi with
    | nil =>
     cases hwi with
     | nil =>
      simp only [List.length_nil] at hlen
      rw [uS]
      exact (decide_eq_false (by omega)).symm
     | cons c u hw =>
      simp only [List.length_nil, List.length_cons] at hlen
      rw [uD]
      exact (decide_eq_true (by omega)).symm
    | cons a t hv =>
     cases hwi with
     | nil =>
      simp only [List.length_nil, List.length_cons] at hlen
      rw [tF]
      exact (decide_eq_false (by omega)).symm
     | cons c u hw =>
      rw [List.zip_cons_cons] at hz
      cases hz
   rw [hv] at hR
   wp_walk
   exact ⟨_, rfl, by simpa [Builtin.Tuple.tupleCompareSizes] using hR⟩
  case h =>
   exact ⟨rfl, rfl, items.toList, items2.toList, ns, ms, rfl, hi, hj, by omega, h⟩
end
section
variable {prog : Program} {w : World} {A : Around} {E : Value -> Shared -> Prop} {s : Shared}
theorem lt_tupInts {l b : Addr} {items items2 : Array Value} {ns ms : List Int} {Q : Value -> Shared -> Prop} (hl : IsTup s.heap l items) (hb : IsTup s.heap b items2) (hi : IntsAre items.toList ns) (hj : IntsAre items2.toList ms)
 (hu : A.units < cLine) (h : Q (.bool (lexLt ns ms)) s) : wpAny (model prog w) A (compareOp .Lt (.ref l) (.ref b)) Q E s := by
 obtain ⟨⟨cls, dd, data, sl⟩, ho, hc, n, hd⟩ := id hl
 obtain ⟨⟨cls2, dd2, data2, sl2⟩, ho2, hc2, n2, hd2⟩ := id hb
 simp only at hc hd hc2 hd2
 subst hc hd hc2 hd2
 exact richCompare_meets_room (op := .Lt) ⟨_, ho, rfl⟩ ⟨_, ho2, rfl⟩ PySem.F.slot_tuple_lt PySem.F.entry_tuple_lt (PySem.F.args_tuple_lt_2 _ _) (uU l b items items2 n n2 dd dd2 sl sl2 ns ms hi hj)
  ⟨ho, ho2, show Value.bool (lexLt ns ms) ≠ Value.notImplemented /\ Q (.bool (lexLt ns ms)) s from ⟨(fun x => nomatch x), h⟩⟩ hu
theorem cat_tup {t b : Addr} {vs ws : List Value} {Q : Value -> Shared -> Prop} (ht : IsTup s.heap t vs.toArray) (hb : IsTup s.heap b ws.toArray) (hv : vs ≠ [])
 (h1 : ws = [] -> Q (.ref t) s) (h2 : ws ≠ [] -> Q (.ref s.heap.objs.size) { s with heap := s.heap.push { cls := .type "tuple", data := .seq (vs ++ ws).toArray } })
 (hsz : vs.length + ws.length <= sizeLine) : wpAny (model prog w) A (binaryOp .Add (.ref t) (.ref b)) Q E s := by
 obtain ⟨⟨cls, dd, data, sl⟩, ho, hc, n, hd⟩ := id ht
 obtain ⟨⟨cls2, dd2, data2, sl2⟩, ho2, hc2, n2, hd2⟩ := id hb
 simp only at hc hd hc2 hd2
 subst hc hd hc2 hd2
 have e : vs.toArray ++ ws.toArray = (vs ++ ws).toArray := by simp
 by_cases hw : ws = []
 · exact concat_meets ⟨_, ho, rfl⟩ ⟨_, ho2, rfl⟩ noFill_tuple_add seq_tuple_add PySem.F.slot_tuple_add PySem.F.entry_tuple_add (PySem.F.args_tuple_add_2 _ _)
    (tuple_addW1 t b vs.toArray ws.toArray n n2 dd dd2 sl sl2 (by simpa using hv) (by simp [hw])) ⟨ho, ho2, h1 hw⟩
 · refine concat_meets ⟨_, ho, rfl⟩ ⟨_, ho2, rfl⟩ noFill_tuple_add seq_tuple_add PySem.F.slot_tuple_add PySem.F.entry_tuple_add (PySem.F.args_tuple_add_2 _ _)
    (tuple_addW2 t b vs.toArray ws.toArray n n2 dd dd2 sl sl2 (by simpa using hv) (by simpa using hw) (by rw [List.size_toArray, List.size_toArray]; exact hsz)) ⟨ho, ho2, ?_⟩
   rw [e]
   exact h2 hw
def sIx (n d : Nat) : Option Int -> Nat
 | none => d
 | some v => if v < 0 then (v + (n : Int)).toNat else min v.toNat n
theorem sIx_none (n d : Nat) : sIx n d none = d := rfl
theorem sIx_nat (n d k : Nat) : sIx n d (some (k : Int)) = min k n := by
 show (if (k : Int) < 0 then ((k : Int) + (n : Int)).toNat else min (k : Int).toNat n) = min k n
 rw [if_neg (by omega), Int.toNat_natCast]
theorem aAX (n d : Nat) (hd : d <= n) (o : Option Int) : sIx n d o <= n := by
 cases o with
 | none => exact hd
 | some v =>
  show (if v < 0 then (v + (n : Int)).toNat else min v.toNat n) <= n
  by_cases hv : v < 0
  · rw [if_pos hv]; omega
  · rw [if_neg hv]; exact Nat.min_le_right _ _
theorem FL (v : Int) (n d : Nat) : (if v < 0 then max (v + (n : Int)) 0 else min v (n : Int)) = ((sIx n d (some v) : Nat) : Int) := by
 show (if v < 0 then max (v + (n : Int)) 0 else min v (n : Int)) = (((if v < 0 then (v + (n : Int)).toNat else min v.toNat n) : Nat) : Int)
 by_cases hv : v < 0
 · simp only [if_pos hv]; omega
 · simp only [if_neg hv]; omega
theorem BS (lo hi : Option Int) (n : Nat) : Builtin.Slice.sliceAdjust lo hi 1 (n : Int) = (((sIx n 0 lo : Nat) : Int), ((sIx n n hi : Nat) : Int)) := by
 have h1 : ¬ ((1 : Int) < 0) := by omega
 unfold Builtin.Slice.sliceAdjust
 simp only [h1, if_false]
 refine Prod.ext ?_ ?_
 · cases lo with
   | none => rfl
   | some v => exact FL v n 0
 · cases hi with
   | none => rfl
   | some v => exact FL v n n
theorem CS (i j : Nat) : Builtin.Slice.slicePlaces (i : Int) (j : Int) 1 = j - i := by
 unfold Builtin.Slice.slicePlaces
 have h1 : (1 : Int) > 0 := by omega
 simp only [h1, if_true, Int.ediv_one]
 split <;> omega
theorem tS {v : Value} {o : Option Int} {Q : Option Int -> Shared -> Prop} (p : IsPart v o) (h : Q o s) : wpAny (model prog w) A (Builtin.Slice.slicePartIndex v) Q E s := by
 cases p with
 | none => exact slicePart_none h
 | int i t => exact slicePart_int h
theorem jN {sl : Addr} {vl vu : Value} {lo hi : Option Int} {n : Nat} {Q : Int × Int × Nat -> Shared -> Prop} (hs : s.heap.IsSliceOf sl vl vu .none) (pl : IsPart vl lo) (pu : IsPart vu hi)
 (h : Q (((sIx n 0 lo : Nat) : Int), 1, sIx n n hi - sIx n 0 lo) s) : wpAny (model prog w) A (Builtin.Slice.sliceApplied (.ref sl) (pure (n : Int))) Q E s := by
 obtain ⟨os, hos, hcs, hds⟩ := id hs
 unfold Builtin.Slice.sliceApplied Builtin.Slice.sliceFields
 refine wpAny_bind (wpAny_bind (wpAny_field hos hds (x := vl) rfl (wpAny_bind (wpAny_field hos hds (x := vu) rfl (wpAny_bind (wpAny_field hos hds (x := .none) rfl (wpAny_pure ?_)))))))
 refine wpAny_bind (slicePart_none ?_)
 show wpAny _ _ (if ((1 : Int) == 0) = true then _ else _) _ _ s
 rw [if_neg (by decide)]
 refine wpAny_bind (tS pl (wpAny_bind (tS pu (wpAny_bind (wpAny_pure ?_)))))
 show wpAny _ _ (match Builtin.Slice.sliceAdjust lo hi 1 (n : Int) with | (lo, hi) => pure (lo, (1 : Int), Builtin.Slice.slicePlaces lo hi 1)) _ _ s
 rw [BS lo hi n]
 show wpAny _ _ (pure (((sIx n 0 lo : Nat) : Int), (1 : Int), Builtin.Slice.slicePlaces ((sIx n 0 lo : Nat) : Int) ((sIx n n hi : Nat) : Int) 1)) _ _ s
 rw [CS]
 exact wpAny_pure h
theorem ND (xs : Array Value) (i k : Nat) : ((List.range k).filterMap fun (m : Nat) => xs[((i : Int) + (m : Int) * 1).toNat]?).toArray = ((xs.toList.drop i).take k).toArray := by
 have e : (fun (m : Nat) => xs[((i : Int) + (m : Int) * 1).toNat]?) = fun m => xs[i + m]? := by
  funext m
  have : ((i : Int) + (m : Int) * 1).toNat = i + m := by omega
  rw [this]
 rw [e]
 have := pick_run xs i k
 rw [List.filterMap_map] at this
 have e2 : ((fun x => xs[x]?) ∘ fun x => i + x) = fun m => xs[i + m]? := rfl
 rw [e2] at this
 rw [this]
theorem getItem_tuple_cut {t sl : Addr} {items : Array Value} {vl vu : Value} {lo hi : Option Int} {Q : Value -> Shared -> Prop} (ht : IsTup s.heap t items) (hs : s.heap.IsSliceOf sl vl vu .none) (pl : IsPart vl lo) (pu : IsPart vu hi)
 (hw : ¬ (sIx items.size 0 lo = 0 /\ sIx items.size items.size hi = items.size))
 (h : Q (.ref s.heap.objs.size) { s with heap := s.heap.push { cls := .type "tuple", data := .seq ((items.toList.drop (sIx items.size 0 lo)).take (sIx items.size items.size hi - sIx items.size 0 lo)).toArray } })
 (hsz : items.size <= sizeLine) : wpAny (model prog w) A (getItem (.ref t) (.ref sl)) Q E s := by
 have htake : sizeOk (.seq ((items.toList.drop (sIx items.size 0 lo)).take (sIx items.size items.size hi - sIx items.size 0 lo)).toArray) := by
  show ((items.toList.drop (sIx items.size 0 lo)).take (sIx items.size items.size hi - sIx items.size 0 lo)).toArray.size <= sizeLine
  rw [List.size_toArray, List.length_take, List.length_drop, Array.length_toList]
  omega
 have hj : sIx items.size items.size hi <= items.size := aAX _ _ (Nat.le_refl _) hi
 obtain ⟨os, hos, hcs, hds⟩ := id hs
 have hTs : s.TypeIs (.ref sl) "slice" := ⟨os, hos, hcs⟩
 unfold getItem
 try with_reducible refine wpAny_holding ?_
 first | refine wpAny_bind (wpAny_pure ?_) | skip
 refine wpAny_bind (wpAny_sequenceKey ht.typeIs (by decide) ?_)
 refine wpAny_bind (wpAny_callSpecial?_slot (name := Str.ofString "__getitem__") ht.typeIs PyProof.Rows.slot_tuple_getitem
  (wpAny_call_entry PyProof.Rows.slot_tuple_getitem ht.typeIs entry_tuple_getitem ?_ (args_tuple_getitem _ _)))
 show wpAny _ _ (Builtin.Tuple.tupleItemsOf (.ref t) >>= _) _ _ s
 refine wpAny_bind (tupleItemsOf_ ht ?_)
 refine wpAny_bind (wpAny_typeOf hTs ?_)
 rw [if_pos (by decide)]
 refine wpAny_bind (jN hs pl pu ?_)
 have hno : ¬ ((((sIx items.size 0 lo : Nat) : Int) == 0 && (1 : Int) == 1 && (sIx items.size items.size hi - sIx items.size 0 lo) == items.size) = true) := by
  intro q
  rw [Bool.and_eq_true, Bool.and_eq_true] at q
  have q1 : ((sIx items.size 0 lo : Nat) : Int) = 0 := eq_of_beq q.1.1
  have q2 : sIx items.size items.size hi - sIx items.size 0 lo = items.size := eq_of_beq q.2
  exact hw ⟨by omega, by omega⟩
 show wpAny _ _ (if (((sIx items.size 0 lo : Nat) : Int) == 0 && (1 : Int) == 1 && (sIx items.size items.size hi - sIx items.size 0 lo) == items.size) = true then _ else _) _ _ s
 rw [if_neg hno, ND]
 first
  | exact wpAny_bind (m := Builtin.Tuple.tupleExact _) (wpAny_newObj_type (wpAny_pure ⟨_, rfl, wpAny_pure h⟩) htake)
  | exact wpAny_bind (m := Builtin.Tuple.tupleExact _) (wpAny_newObj_type (wpAny_bind (wpAny_pure (wpAny_pure ⟨_, rfl, wpAny_pure h⟩))) htake)
  | exact wpAny_bind (wpAny_bind (m := Builtin.Tuple.tupleExact _) (wpAny_newObj_type (wpAny_pure (wpAny_pure ⟨_, rfl, wpAny_pure h⟩)) htake))
  | exact wpAny_bind (wpAny_bind (m := Builtin.Tuple.tupleExact _) (wpAny_newObj_type (wpAny_pure ⟨_, rfl, wpAny_pure h⟩) htake))
end
end HT
namespace L2
open PySem PySem.Spec PyProof.Rows
abbrev TO := St -> Hp -> (Option Int -> Hp -> Prop) -> Prop
def PO (X : Cx) (e : Option Expr) (t : TO) : Prop :=
 ∀ (pins : List (Addr × Obj)) (s : Shared) (σ : St) (H : Hp) (Q : Option Int -> Hp -> Prop), Inv X pins σ H s -> t σ H Q ->
  wpAny (model X.prog X.w) X.A (evalPart e X.env) (fun u s' => ∃ o H', Inv X pins σ H' s' /\ IsPart u o /\ Q o H') X.xe s
def DZ : TO := fun _ H Q => Q none H
def VD (t : TE) : TO := fun σ H Q => t σ H fun x H1 => ∃ i, x = .int i /\ Q (some i) H1
section
variable {X : Cx} {e : Expr} {te : TE} {lo hi : Option Expr} {tl th : TO} {pos p2 : Pos}
theorem OZ : PO X none DZ := by
 intro pins s σ H Q I h
 rw [evalPart_none]
 exact wpAny_pure ⟨none, H, I, .none, h⟩
theorem RA (h : PE X e te) : PO X (some e) (VD te) := by
 intro pins s σ H Q I hw
 rw [evalPart_some]
 refine thn (h pins s σ H _ I hw) fun u s1 ⟨x, H1, I1, r1, q1⟩ => ?_
 obtain ⟨i, rfl, q⟩ := q1
 obtain ⟨t, rfl⟩ := r1
 exact ⟨some i, H1, I1, .int i t, q⟩
def SlR (X : Cx) (r : V -> Option Int -> Option Int -> Hp -> VK -> Prop) : Prop :=
 ∀ (pins : List (Addr × Obj)) (s : Shared) (σ : St) (H : Hp) (x : V) (v vl vu : Value) (lo hi : Option Int) (sl : Addr) (Q : VK), Inv X pins σ H s -> RelV x v -> s.heap.IsSliceOf sl vl vu .none -> IsPart vl lo -> IsPart vu hi -> r x lo hi H Q ->
  ∃ T id, typeLookup (.type T) "__getitem__" = pure (some (.builtin id)) /\ s.TypeIs v T /\ wpAny (model X.prog X.w) X.A (getItem v (.ref sl)) (EP X pins σ Q) X.xe s
theorem SlR.or {r r' : V -> Option Int -> Option Int -> Hp -> VK -> Prop} (h : SlR X r) (h' : SlR X r') : SlR X (fun x lo hi H Q => r x lo hi H Q \/ r' x lo hi H Q) := by
 intro pins s σ H x v vl vu lo hi sl Q I rx hs pl pu q
 rcases q with q | q
 · exact h pins s σ H x v vl vu lo hi sl Q I rx hs pl pu q
 · exact h' pins s σ H x v vl vu lo hi sl Q I rx hs pl pu q
def tSl (r : V -> Option Int -> Option Int -> Hp -> VK -> Prop) (te : TE) (tl th : TO) : TE := fun σ H Q => te σ H fun x H1 => tl σ H1 fun l H2 => th σ H2 fun u H3 => r x l u H3 Q
theorem IQ {r : V -> Option Int -> Option Int -> Hp -> VK -> Prop} (hr : SlR X r) (he : PE X e te) (hl : PO X lo tl) (hu : PO X hi th) : PE X (.Subscript e (.Slice lo hi none p2) pos) (tSl r te tl th) := by
 intro pins s σ H Q I h
 refine Subscript_ (thn (he pins s σ H _ I h) fun v s1 ⟨x, H1, I1, r1, q1⟩ => ?_)
 refine wpAny_Slice (thn (hl pins s1 σ H1 _ I1 q1) fun vl s2 ⟨l, H2, I2, pl, q2⟩ => thn (hu pins s2 σ H2 _ I2 q2) fun vu s3 ⟨u, H3, I3, pu, q3⟩ => ?_)
 rw [evalPart_none]
 refine wpAny_pure ?_
 have I4 : Inv X pins σ H3 { s3 with heap := s3.heap.push { cls := .type "slice", data := .fields #[vl, vu, .none] } } := I3.kept (t' := s3.toks) fun b ob q => Heap.get?_push_of_some _ q
 obtain ⟨T, id, hT, ht, hg⟩ := hr pins { s3 with heap := s3.heap.push { cls := .type "slice", data := .fields #[vl, vu, .none] } } σ H3 x v vl vu l u s3.heap.objs.size Q I4 r1 (Heap.IsSliceOf.new ..) pl pu q3
 show wpAny (model X.prog X.w) X.A (subscriptTail e (.Slice lo hi none p2) v (.ref s3.heap.objs.size)) (EP X pins σ Q) X.xe { s3 with heap := s3.heap.push { cls := .type "slice", data := .fields #[vl, vu, .none] } }
 exact tail_any (ops := [.ref s3.heap.objs.size, v]) ht hT hg (by with_unfolding_all rfl)
def pM (xs : List V) (lo hi : Option Int) : List V := (xs.drop (HT.sIx xs.length 0 lo)).take (HT.sIx xs.length xs.length hi - HT.sIx xs.length 0 lo)
theorem qO (xs : List V) (lo hi : Option Int) : (pM xs lo hi).length <= xs.length := by
 unfold pM
 rw [List.length_take, List.length_drop]
 omega
def aCs (K : PySem.W.Frag) : V -> Option Int -> Option Int -> Hp -> VK -> Prop := fun x lo hi H Q => ∃ a xs, x = .ref a /\ SqT K H a xs /\
 ¬ (HT.sIx xs.length 0 lo = 0 /\ HT.sIx xs.length xs.length hi = xs.length) /\ ∀ p, H p = none -> Q (.ref p) (upd H p (.tup (pM xs lo hi)))
theorem sl_tup : SlR X (aCs X.K) := by
 intro pins s σ H x v vl vu lo hi sl Q I rx hs pl pu h
 obtain ⟨a, xs, rfl, hx, hw, q⟩ := h
 cases rx
 obtain ⟨its, r, ht, hz⟩ := I.tuple hx
 have hlen : its.toArray.size = xs.length := by rw [List.size_toArray]; exact r.length.symm
 refine ⟨"tuple", _, PyProof.Rows.slot_tuple_getitem.lookup, ht.typeIs, ?_⟩
 refine HT.getItem_tuple_cut ht hs pl pu (by rw [hlen]; exact hw) ?_ (by rw [hlen]; exact hz)
 rw [hlen]
 refine ⟨.ref s.heap.objs.size, _, I.laid (t' := s.toks) (o := .tup (pM xs lo hi)) (fun b ob q => Heap.get?_push_of_some _ q) (Nat.le_refl _) ?_, rfl, q _ (I.hok.fresh (Nat.le_refl _))⟩
 exact ⟨Nat.le_trans (qO xs lo hi) hz, _, (r.drop (HT.sIx xs.length 0 lo)).take (HT.sIx xs.length xs.length hi - HT.sIx xs.length 0 lo), IsTup.new _ _⟩
def KW (K : PySem.W.Frag) : R2 := fun x y H Q => ∃ a b xs ys, x = .ref a /\ y = .ref b /\ SqT K H a xs /\ SqT K H b ys /\ xs ≠ [] /\ xs.length + ys.length <= sizeLine /\
 (ys = [] -> Q (.ref a) H) /\ (ys ≠ [] -> ∀ p, H p = none -> Q (.ref p) (upd H p (.tup (xs ++ ys))))
theorem Vals.nil_iff {xs : List V} {us : List Value} (r : Vals xs us) : us = [] ↔ xs = [] := by
 cases r with
 | nil => simp
 | cons _ _ => simp
theorem PX : OpR X (binaryOp .Add) (KW X.K) := by
 intro pins s σ H x y v u Q I rx ry h
 obtain ⟨a, b, xs, ys, rfl, rfl, ha, hb, hx, hz, q1, q2⟩ := h
 cases rx
 cases ry
 obtain ⟨its, r1, p1, _⟩ := I.tuple ha
 obtain ⟨its2, r2, p2, _⟩ := I.tuple hb
 refine HT.cat_tup p1 p2 (fun z => hx (r1.nil_iff.mp z)) (fun z => ⟨.ref a, H, I, rfl, q1 (r2.nil_iff.mp z)⟩) (fun z => ?_) (by rw [<- r1.length, <- r2.length]; exact hz)
 refine ⟨.ref s.heap.objs.size, _, I.laid (t' := s.toks) (o := .tup (xs ++ ys)) (fun b ob q => Heap.get?_push_of_some _ q) (Nat.le_refl _) ?_, rfl, q2 (fun w => z (r2.nil_iff.mpr w)) _ (I.hok.fresh (Nat.le_refl _))⟩
 exact ⟨by rw [List.length_append]; exact hz, _, r1.append r2, IsTup.new _ _⟩
end
end L2
namespace L2
open PySem PySem.Spec PyProof.Rows
def ixN (n : Nat) (i : Int) : Option Nat := if 0 <= i then (if i < n then some i.toNat else none) else if -(n : Int) <= i then some (i + n).toNat else none
def atI {α : Type} (xs : List α) (i : Int) : Option α := (ixN xs.length i).bind fun j => xs[j]?
theorem FC {n : Nat} {i : Int} {j : Nat} (h : ixN n i = some j) : seqIndex? i n = some j /\ j < n /\ -(n : Int) <= i /\ i < n := by
 unfold ixN at h
 by_cases h0 : 0 <= i
 · rw [if_pos h0] at h
   by_cases h1 : i < n
   · rw [if_pos h1] at h
     have e : i.toNat = j := Option.some.inj h
     exact ⟨by rw [seqIndex_of h0 h1, e], by omega, by omega, h1⟩
   · rw [if_neg h1] at h; cases h
 · rw [if_neg h0] at h
   by_cases h1 : -(n : Int) <= i
   · rw [if_pos h1] at h
     have e : (i + n).toNat = j := Option.some.inj h
     exact ⟨by rw [seqIndex_neg (by omega) h1, e], by omega, h1, by omega⟩
   · rw [if_neg h1] at h; cases h
theorem yG {α : Type} {xs : List α} {i : Int} {v : α} (h : atI xs i = some v) : ∃ j, seqIndex? i xs.length = some j /\ xs[j]? = some v /\ j < xs.length /\ -(xs.length : Int) <= i /\ i < xs.length := by
 unfold atI at h
 cases e : ixN xs.length i with
 | none => rw [e] at h; cases h
 | some j =>
  rw [e] at h
  obtain ⟨h1, h2, h3, h4⟩ := FC e
  exact ⟨j, h1, h, h2, h3, h4⟩
theorem FD {α : Type} {xs : List α} {j : Nat} {v : α} (h : xs[j]? = some v) : atI xs (j : Int) = some v := by
 have hj : j < xs.length := (List.getElem?_eq_some_iff.mp h).1
 have e : ixN xs.length (j : Int) = some j := by
  unfold ixN
  rw [if_pos (by omega), if_pos (by omega)]; simp
 unfold atI; rw [e]; exact h
def DS (b : Expr) : Prop := ∀ o i, subscripted b false o i = operate [o, i] (getItem o i)
def IxR (X : Cx) (r : R2) : Prop :=
 ∀ (value slice : Expr) (pins : List (Addr × Obj)) (s : Shared) (σ : St) (H : Hp) (x y : V) (v u : Value) (Q : VK), Inv X pins σ H s -> RelV x v -> RelV y u -> r x y H Q ->
  subscripted slice false v u = operate [v, u] (getItem v u) -> wpAny (model X.prog X.w) X.A (subscriptTail value slice v u) (EP X pins σ Q) X.xe s
def MtR (X : Cx) (id : String) (r : V -> List V -> Hp -> VK -> Prop) : Prop :=
 ∀ (pins : List (Addr × Obj)) (s : Shared) (σ : St) (H : Hp) (x : V) (xs : List V) (v : Value) (us : List Value) (Q : VK), Inv X pins σ H s -> RelV x v -> Vals xs us -> r x xs H Q ->
  wpAny (model X.prog X.w) X.A (call (.builtin id) (v :: us)) (EP X pins σ Q) X.xe s
section
variable {X : Cx} {a b : Expr} {ta tb : TE} {pos : Pos}
theorem IxR.or {r r' : R2} (h : IxR X r) (h' : IxR X r') : IxR X (fun x y H Q => r x y H Q \/ r' x y H Q) := by
 intro value slice pins s σ H x y v u Q I rx ry q hs
 rcases q with q | q
 · exact h value slice pins s σ H x y v u Q I rx ry q hs
 · exact h' value slice pins s σ H x y v u Q I rx ry q hs
theorem aBr {r : R2} (hr : IxR X r) (ha : PE X a ta) (hb : PE X b tb) (hs : DS b) : PE X (.Subscript a b pos) (tOp r ta tb) := by
 intro pins s σ H Q I h
 exact Subscript_ (XB ha hb I h fun v u s2 x y H2 I2 rx ry q => hr a b pins s2 σ H2 x y v u Q I2 rx ry q (hs _ _))
def aCt (K : PySem.W.Frag) : R2 := fun x y H Q => ∃ p xs i v, x = .ref p /\ y = .int i /\ SqL K H p xs /\ atI xs i = some v /\ Q v H
def aCb (K : PySem.W.Frag) : R2 := fun x y H Q => ∃ p xs i v, x = .ref p /\ y = .int i /\ SqT K H p xs /\ atI xs i = some v /\ Q v H
def aBp : R2 := fun x y H Q => ∃ z i c, x = .str z /\ y = .int i /\ z.length <= sizeLine /\ atI z.cps.toList i = some c /\ Q (.str ⟨#[c]⟩) H
theorem ix_list : IxR X (aCt X.K) := by
 intro value slice pins s σ H x y v u Q I rx ry h hs
 obtain ⟨p, xs, i, z, rfl, rfl, hq, he, q⟩ := h
 cases rx
 obtain ⟨t, rfl⟩ := ry
 obtain ⟨its, r, pl, hz⟩ := I.list hq
 obtain ⟨j, h1, h2, h3, h4, h5⟩ := yG he
 obtain ⟨w, ew, rw'⟩ := r.get h2
 have hl := r.length
 have hn := qG
 have fin : EP X pins σ Q w s := ⟨z, H, I, rw', q⟩
 by_cases h0 : 0 <= i
 · have hj : i.toNat = j := by
    rw [seqIndex_of h0 h5] at h1
    exact Option.some.inj h1
   exact item_listR pl.isList h0 (by omega) (by rw [hj]; simpa using ew) fin hs
 · have hj : (i + (its.toArray.size : Int)).toNat = j := by
    rw [seqIndex_neg (by omega) h4] at h1
    rw [List.size_toArray, <- hl]
    exact Option.some.inj h1
   exact subscriptTail_builtinR (x := w) pl.isList.typeIs slot_list_getitem.lookup
    (wpAny_getItem_list_neg (Q := fun r s' => r = w /\ EP X pins σ Q r s') pl.isList (by omega) (by rw [List.size_toArray] <;> omega) (by omega) (by rw [hj]; simpa using ew) ⟨rfl, fin⟩) hs
theorem ix_tup : IxR X (aCb X.K) := by
 intro value slice pins s σ H x y v u Q I rx ry h hs
 obtain ⟨p, xs, i, z, rfl, rfl, hq, he, q⟩ := h
 cases rx
 obtain ⟨t, rfl⟩ := ry
 obtain ⟨its, r, pl, hz⟩ := I.tuple hq
 obtain ⟨j, h1, h2, h3, h4, h5⟩ := yG he
 obtain ⟨w, ew, rw'⟩ := r.get h2
 have hl := r.length
 have hn := qG
 have fin : EP X pins σ Q w s := ⟨z, H, I, rw', q⟩
 exact subscriptTail_builtinR (x := w) pl.typeIs slot_tuple_getitem.lookup
  (getItem_tuple (j := j) (Q := fun r s' => r = w /\ EP X pins σ Q r s') pl (by omega) (by omega) (by rw [List.size_toArray, <- hl]; exact h1) (by simpa using ew) ⟨rfl, fin⟩) hs
theorem ZN : IxR X aBp := by
 intro value slice pins s σ H x y v u Q I rx ry h hs
 obtain ⟨z, i, c, rfl, rfl, hz, he, q⟩ := h
 obtain ⟨t, rfl⟩ := rx
 obtain ⟨t', rfl⟩ := ry
 obtain ⟨j, h1, h2, h3, h4, h5⟩ := yG he
 have hl : z.cps.toList.length = z.length := by simp [Str.length]
 rw [hl] at h1 h4 h5
 have hn := qG
 exact tail_any (typeIs_str s z t) slot_str_getitem.lookup (getItem_str (c := c) (by
  have e1 : decide (i < -(2 ^ 63 : Int)) = false := decide_eq_false (by omega)
  have e2 : decide (i >= 2 ^ 63) = false := decide_eq_false (by omega)
  rw [e1, e2, Bool.or_false]) (by rw [h1]; simpa using h2) ⟨.str ⟨#[c]⟩, H, I.tok _, ⟨_, rfl⟩, q⟩) hs
def rIx (K : PySem.W.Frag) : R2 := fun x y H Q => aCt K x y H Q \/ aCb K x y H Q \/ aBp x y H Q
theorem aAk : IxR X (rIx X.K) := ix_list.or (ix_tup.or ZN)
theorem CL (its : List Value) (n j : Nat) (u : Value) : Obj.mapSeq (·.setIfInBounds j u) { cls := .type "list", data := .seq its.toArray n } = { cls := .type "list", data := .seq (its.set j u).toArray n } := by
 simp [Obj.mapSeq]
theorem Inv.lst {pins : List (Addr × Obj)} {σ : St} {H : Hp} {s : Shared} {p : Addr} {xs : List V} (I : Inv X pins σ H s) (h : H p = some (.lst xs)) :
 ∃ (its : List Value) (n : Nat), Vals xs its /\ s.heap.get? p = some { cls := .type "list", data := .seq its.toArray n } /\ xs.length <= sizeLine := by
 obtain ⟨z, its, n, r, e⟩ := I.hok p _ h
 exact ⟨its, n, r, e, z⟩
theorem Inv.lstUpd {pins : List (Addr × Obj)} {σ : St} {H : Hp} {s : Shared} {p : Addr} {xs ys : List V} {its its' : List Value} {n n' : Nat} {f : Obj -> Obj} (I : Inv X pins σ H s) (h : H p = some (.lst xs))
 (ho : s.heap.get? p = some { cls := .type "list", data := .seq its.toArray n }) (hf : f { cls := .type "list", data := .seq its.toArray n } = { cls := .type "list", data := .seq its'.toArray n' }) (r : Vals ys its') (hz : ys.length <= sizeLine) (t : Nat) :
 Inv X pins σ (upd H p (.lst ys)) { s with heap := s.heap.update p f, toks := t } := by
 have e : (s.heap.update p f).get? p = some { cls := .type "list", data := .seq its'.toArray n' } := by
  rw [Heap.get?_update_self f ho (by rw [hf] <;> rfl), hf]
 refine I.write (x := p) (e := p) (by rw [h]; trivial) (.inl rfl) (fun b u hb q => (Heap.get?_update_other _ _ (Ne.symm hb)).trans q) ⟨_, e⟩ ?_
 exact ⟨hz, its', n', r, e⟩
def VC : V -> V -> V -> Hp -> (Hp -> Prop) -> Prop := fun o i v H Q => ∃ p xs k j, o = .ref p /\ i = .int k /\ H p = some (.lst xs) /\ ixN xs.length k = some j /\ Q (upd H p (.lst (xs.set j v)))
theorem set_list : YS X VC := by
 intro pins s σ H o i v ov iv u Q I ro ri rv h
 obtain ⟨p, xs, k, j, rfl, rfl, hp, hj, q⟩ := h
 cases ro
 obtain ⟨t, rfl⟩ := ri
 obtain ⟨its, n, r, ho, hz⟩ := I.lst hp
 obtain ⟨h1, h2, h3, h4⟩ := FC hj
 have hl := r.length
 have hn := qG
 have I' : Inv X pins σ (upd H p (.lst (xs.set j v))) { s with heap := s.heap.update p (Obj.mapSeq (·.setIfInBounds j u)) } :=
  I.lstUpd hp ho (CL its n j u) (r.set rv j) (by rw [List.length_set]; exact hz) s.toks
 by_cases h0 : 0 <= k
 · have hk : k.toNat = j := by
    rw [seqIndex_of h0 h4] at h1
    exact Option.some.inj h1
   exact PySem.W.ki_setAt ho h0 (by omega) (by rw [List.size_toArray, <- hl]; exact h4) (by rw [hk]; exact ⟨_, I', q⟩)
 · have hk : (k + (its.toArray.size : Int)).toNat = j := by
    rw [seqIndex_neg (by omega) h3] at h1
    rw [List.size_toArray, <- hl]
    exact Option.some.inj h1
   exact PySem.W.ki_setBack ho (by omega) (by rw [List.size_toArray, <- hl]; exact h3) (by omega) (by rw [hk]; exact ⟨_, I', q⟩)
theorem xJ (lo hi : Option Int) (n : Nat) : (sliceBounds lo hi none n).1 = ((HT.sIx n 0 lo : Nat) : Int) /\ (sliceBounds lo hi none n).2.1 = ((HT.sIx n n hi : Nat) : Int) /\ (sliceBounds lo hi none n).2.2 = 1 := by
 refine ⟨?_, ?_, rfl⟩
 · cases lo with
   | none => simp [sliceBounds, HT.sIx]
   | some i =>
    simp only [sliceBounds, HT.sIx, Option.getD_none, show (1 : Int) > 0 by decide, if_true]
    by_cases h : i < 0
    · simp only [h, if_true] <;> omega
    · simp only [h, if_false] <;> omega
 · cases hi with
   | none => simp [sliceBounds, HT.sIx]
   | some i =>
    simp only [sliceBounds, HT.sIx, Option.getD_none, show (1 : Int) > 0 by decide, if_true]
    by_cases h : i < 0
    · simp only [h, if_true] <;> omega
    · simp only [h, if_false] <;> omega
theorem uQ (its : List Value) (lo hi : Option Int) : slicePick its.toArray lo hi none = ((its.drop (HT.sIx its.length 0 lo)).take (HT.sIx its.length its.length hi - HT.sIx its.length 0 lo)).toArray := by
 obtain ⟨h1, h2, h3⟩ := xJ lo hi its.toArray.size
 unfold slicePick
 rw [h1, h2, h3]
 simp only [sliceRange_one, pick_run, List.size_toArray] <;> rfl
def aCL (K : PySem.W.Frag) : V -> Option Int -> Option Int -> Hp -> VK -> Prop := fun x lo hi H Q => ∃ a xs, x = .ref a /\ SqL K H a xs /\ ∀ p, H p = none -> Q (.ref p) (upd H p (.lst (pM xs lo hi)))
theorem sl_list : SlR X (aCL X.K) := by
 intro pins s σ H x v vl vu lo hi sl Q I rx hs pl pu h
 obtain ⟨a, xs, rfl, hx, q⟩ := h
 cases rx
 obtain ⟨its, r, ht, hz⟩ := I.list hx
 have hlen := r.length
 refine ⟨"list", _, slot_list_getitem.lookup, ht.isList.typeIs, ?_⟩
 refine wpAny_getItem_list_slice ht.isList hs pl pu .none (by simp) ?_ (by rw [List.size_toArray] <;> omega)
 rw [uQ, <- hlen]
 refine ⟨.ref s.heap.objs.size, _, I.laid (t' := s.toks) (o := .lst (pM xs lo hi)) (fun b ob q => Heap.get?_push_of_some _ q) (Nat.le_refl _) ?_, rfl, q _ (I.hok.fresh (Nat.le_refl _))⟩
 exact ⟨Nat.le_trans (qO xs lo hi) hz, _, 0, (r.drop (HT.sIx xs.length 0 lo)).take (HT.sIx xs.length xs.length hi - HT.sIx xs.length 0 lo), Heap.get?_push_size _ rfl⟩
theorem xY : gV X (.builtin "len") (fun xs H Q => ∃ p ys, xs = [.ref p] /\ (SqL X.K H p ys \/ SqT X.K H p ys) /\ Q (.int ys.length) H) := by
 intro pins s σ H xs us Q I r h
 obtain ⟨p, ys, rfl, hq, q⟩ := h
 obtain ⟨u, rfl, rx⟩ := vals1 r
 cases rx
 have hn := qG
 rcases hq with hq | hq
 · obtain ⟨its, r', pl, hz⟩ := I.list hq
   have hlen := r'.length
   exact Calls.call_len_list pl.isList (by simp only [List.size_toArray] <;> omega) ⟨.int ys.length, H, I.tok _, ⟨s.toks + 1, by rw [List.size_toArray, hlen]⟩, q⟩
 · obtain ⟨its, r', pl, hz⟩ := I.tuple hq
   have hlen := r'.length
   exact len_tuple pl (by simp only [List.size_toArray] <;> omega) ⟨.int ys.length, H, I.tok _, ⟨s.toks + 1, by rw [List.size_toArray, hlen]⟩, q⟩
theorem uV : gV X (.type "tuple") (fun xs H Q => ∃ p ys, xs = [.ref p] /\ ((SqL X.K H p ys /\ ∀ l, H l = none -> Q (.ref l) (upd H l (.tup ys))) \/ (SqT X.K H p ys /\ Q (.ref p) H))) := by
 intro pins s σ H xs us Q I r h
 obtain ⟨p, ys, rfl, h⟩ := h
 obtain ⟨u, rfl, rx⟩ := vals1 r
 cases rx
 rcases h with ⟨hq, q⟩ | ⟨hq, q⟩
 · obtain ⟨its, r', pl, hz⟩ := I.list hq
   have hlen := r'.length
   refine call_tuple_list pl.isList (fun h' kp => ?_) (by simp only [List.size_toArray] <;> omega)
   have I1 : Inv X pins σ H { s with heap := h' } := I.kept (t' := s.toks) kp
   have I2 : Inv X pins σ (upd H h'.objs.size (.tup ys)) { s with heap := h'.push { cls := .type "tuple", data := .seq its.toArray } } :=
    I1.laid (t' := s.toks) (fun b o e => Heap.get?_push_of_some _ e) (Nat.le_refl _) (show ObjOk X.prog X.w _ _ _ (.tup ys) from ⟨hz, its, r', IsTup.new _ _⟩)
   exact ⟨.ref h'.objs.size, _, I2, rfl, q _ (I1.hok.fresh (Nat.le_refl _))⟩
 · obtain ⟨its, r', pl, hz⟩ := I.tuple hq
   exact call_tuple_same pl ⟨.ref p, H, I, rfl, q⟩
def tyV (K : PySem.W.Frag) (T : String) (x : V) (H : Hp) : Prop := match x with
 | .str _ => T = "str"
 | .int _ => T = "int"
 | .ref p => (T = "list" /\ ∃ xs, SqL K H p xs) \/ (T = "tuple" /\ ∃ o, K.lookup p = some o /\ o.cls = .type "tuple" /\ o.dict = none) \/
  (T = "dict" /\ ((∃ kvs, H p = some (.dK kvs)) \/ ∃ kvs, H p = some (.dT kvs))) \/ (T = "set" /\ ∃ S n, H p = some (.set S n))
 | _ => False
theorem aBg {pins : List (Addr × Obj)} {σ : St} {H : Hp} {s : Shared} {T : String} {x : V} {v : Value} (I : Inv X pins σ H s) (r : RelV x v) (ty : tyV X.K T x H) :
 s.TypeIs v T /\ ∀ a, v = .ref a -> ∃ ob, s.heap.get? a = some ob /\ ob.dict = none := by
 cases x with
 | str z =>
  obtain ⟨t, rfl⟩ := r
  cases (show T = "str" from ty)
  exact ⟨typeIs_str s z t, fun _ e => nomatch e⟩
 | int i =>
  obtain ⟨t, rfl⟩ := r
  cases (show T = "int" from ty)
  exact ⟨typeIs_int s i t, fun _ e => nomatch e⟩
 | ref p =>
  cases r
  rcases ty with ⟨rfl, xs, hq⟩ | ⟨rfl, o, hk, hc, hd⟩ | ⟨rfl, hk⟩ | ⟨rfl, S, n, hk⟩
  · obtain ⟨its, _, pl, _⟩ := I.list hq
    refine ⟨pl.isList.typeIs, fun a e => ?_⟩
    cases e
    obtain ⟨o, n, e, c, hd, _⟩ := pl
    exact ⟨o, e, hd⟩
  · refine ⟨⟨o, I.kIn p o hk, hc⟩, fun a e => ?_⟩
    cases e
    exact ⟨o, I.kIn _ o hk, hd⟩
  · have z : ∃ o, s.heap.get? p = some o /\ o.ExactDict := by
     rcases hk with ⟨kvs, hk⟩ | ⟨kvs, hk⟩
     · obtain ⟨_, _, _, _, o, _, _, e, ex, _⟩ := I.hok p _ hk
       exact ⟨o, e, ex⟩
     · obtain ⟨_, _, _, _, o, _, _, e, ex, _⟩ := I.hok p _ hk
       exact ⟨o, e, ex⟩
    obtain ⟨o, e, ex⟩ := z
    refine ⟨⟨o, e, ex.1⟩, fun a e2 => ?_⟩
    cases e2
    exact ⟨o, e, ex.2.1⟩
  · obtain ⟨o, _, _, _, e, ex, _⟩ := I.hok p _ hk
    refine ⟨⟨o, e, ex.1⟩, fun a e2 => ?_⟩
    cases e2
    exact ⟨o, e, ex.2.1⟩
 | _ => exact False.elim ty
def tBM (K : PySem.W.Frag) (T : String) (r : V -> List V -> Hp -> VK -> Prop) (to : TE) (t : TA) : TE := fun σ H Q => to σ H fun x H1 => tyV K T x H1 /\ t σ H1 fun xs H2 => r x xs H2 Q
variable {o e : Expr} {es : List Expr} {to : TE} {t : TA} {name : Str} {apos cpos : Pos} {T id : String} {r : V -> List V -> Hp -> VK -> Prop}
theorem aBA (pa : PlainAttrs T) (slot : Slot T name id) (hty : typeOf (.builtin id) = pure (.type "method_descriptor")) (hm : MtR X id r) (ho : PE X o to) (ha : PA X (e :: es) t)
 (hbase : attributeBase o name X.env (eval o X.env) = eval o X.env := by rfl)
 (hfew : ((backTo cpos (starEach (e :: es) X.env)).all (fun x => !x.1) && (backToKw cpos (keywordEach [] X.env)).all (fun x => x.1.isSome)
  && decide ((e :: es).length + ([] : List Keyword).length + (if ([] : List Keyword).isEmpty then 0 else 1) < 30)) = true := by rfl)
 (hline : (apos.endLine == cpos.line) = true := by rfl) (hs : starEach (e :: es) X.env = (false, eval e X.env) :: starEach es X.env := by rfl) (hplain : (backTo cpos (starEach es X.env)).any (·.1) = false := by rfl) :
 PE X (.Call (.Attribute o name apos) (e :: es) [] cpos) (tBM X.K T r to t) := by
 intro pins s σ H Q I h
 refine wpAny_Call_method_late hbase hfew hline rfl (thn (ho pins s σ H _ I h) fun v s1 ⟨x, H1, I1, r1, ty, q1⟩ => ?_)
 obtain ⟨h1, h2⟩ := aBg I1 r1 ty
 refine ⟨T, id, pa, slot, hty, h1, h2, ?_⟩
 have hA := ha cpos pins s1 σ H1 _ I1 q1
 rw [hs] at hA ⊢
 refine Calls.callWith_builtin (by show (false || (backTo cpos (starEach es X.env)).any (·.1)) = false; rw [hplain] <;> rfl) (Calls.evalArgs_plain ?_)
 exact thn hA fun us s2 ⟨vs, H2, I2, r2, q2⟩ => hm pins s2 σ H2 x vs v us Q I2 r1 r2 q2
/- xs.append(e), list.index on a module's tuple .. are MtR facts of 06m -/
end
end L2
namespace L2
open PySem PySem.Spec PyProof.Rows
def MtM (X : Cx) (id : String) (r : V -> List V -> Hp -> VK -> Prop) : Prop :=
 ∀ (pins : List (Addr × Obj)) (s : Shared) (σ : St) (H : Hp) (x : V) (xs : List V) (v : Value) (us : List Value) (Q : VK), Inv X pins σ H s -> RelV x v -> Vals xs us -> r x xs H Q ->
  wpAny (model X.prog X.w) X.A (call (.builtin id) (v :: us)) (EP X pins σ Q) X.xe s
theorem Vals.one : ∀ {x : V} {us : List Value}, Vals [x] us -> ∃ u, us = [u] /\ RelV x u
 | _, _, .cons r .nil => ⟨_, rfl, r⟩
section
variable {X : Cx} {pins : List (Addr × Obj)} {σ : St} {H : Hp} {s : Shared} {l b : Addr} {xs ys zs : List V}
theorem Inv.lset {its its' : List Value} {n : Nat} {f : Array Value -> Array Value} {t' : Nat} (I : Inv X pins σ H s) (hH : H l = some (.lst xs))
 (e : s.heap.get? l = some { cls := .type "list", data := .seq its.toArray n }) (hf : f its.toArray = its'.toArray) (hv : Vals ys its') (hz : ys.length <= sizeLine) :
 Inv X pins σ (upd H l (.lst ys)) { s with heap := s.heap.update l (Obj.mapSeq f), toks := t' } := by
 have q := PySem.IsL.update e f
 rw [hf] at q
 refine I.write (x := l) (e := l) (by rw [hH]; exact trivial) (.inl rfl) (fun b' u hb hu => (Heap.get?_update_other s.heap (Obj.mapSeq f) (Ne.symm hb)).trans hu) ⟨_, q⟩ ?_
 exact ⟨hz, its', _, hv, q⟩
theorem Inv.lnew {its : List Value} {t' : Nat} (I : Inv X pins σ H s) (hv : Vals ys its) (hz : ys.length <= sizeLine) :
 Inv X pins σ (upd H s.heap.objs.size (.lst ys)) { s with heap := s.heap.push { cls := .type "list", data := .seq its.toArray }, toks := t' } :=
 I.laid (fun _ _ q => Heap.get?_push_of_some _ q) (Nat.le_refl _) ⟨hz, its, 0, hv, Heap.get?_push_size _ rfl⟩
theorem Inv.fresh (I : Inv X pins σ H s) : H s.heap.objs.size = none := I.hok.fresh (Nat.le_refl _)
theorem Inv.lstM (I : Inv X pins σ H s) (hH : H l = some (.lst xs)) : xs.length <= sizeLine /\ ∃ (its : List Value) (n : Nat), Vals xs its /\ xs.length = its.length /\ s.heap.get? l = some { cls := .type "list", data := .seq its.toArray n } := by
 obtain ⟨z, its, n, r, e⟩ := I.hok l _ hH
 exact ⟨z, its, n, r, r.length, e⟩
end
section
variable {X : Cx}
def DO : V -> List V -> Hp -> VK -> Prop := fun x vs H Q => ∃ l xs y, x = .ref l /\ vs = [y] /\ H l = some (.lst xs) /\ xs.length < sizeLine /\ Q .non (upd H l (.lst (xs ++ [y])))
theorem GQ : MtM X "list.append" DO := by
 intro pins s σ H x vs v us Q I rx rv h
 obtain ⟨l, xs, y, rfl, rfl, hH, hz, q⟩ := h
 cases rx
 obtain ⟨u, rfl, ru⟩ := rv.one
 obtain ⟨z, its, n, r, hl, e⟩ := I.lstM hH
 refine call_meets F.slot_list_append ⟨_, e, rfl⟩ F.entry_list_append (F.args_list_append_2 _ _) (PySem.list_append l its.toArray n u (by rw [List.size_toArray]; omega)) ⟨e, ?_⟩
 refine ⟨.non, _, I.lset (its' := its ++ [u]) hH e (by simp) (r.append (.cons ru .nil)) ?_, rfl, q⟩
 rw [List.length_append, List.length_singleton]
 omega
end
end L2
namespace L2
open PySem PySem.Spec PyProof.Rows
section
variable {κ : Type} [DecidableEq κ]
def jA (kvs : List (κ × V)) (k : κ) : Option V := (kvs.find? fun kv => decide (kv.1 = k)).map (·.2)
def putK (kvs : List (κ × V)) (k : κ) (v : V) : List (κ × V) :=
 if (kvs.any fun kv => decide (kv.1 = k)) = true then kvs.map (fun kv => if kv.1 = k then (kv.1, v) else kv) else kvs ++ [(k, v)]
theorem uL {p : κ × V} {r : List (κ × V)} {k : κ} (e : p.1 = k) : jA (p :: r) k = some p.2 := by simp [jA, List.find?_cons, e]
theorem sH {p : κ × V} {r : List (κ × V)} {k : κ} (e : ¬ p.1 = k) : jA (p :: r) k = jA r k := by simp [jA, List.find?_cons, e]
theorem sA (k : κ) : ∀ kvs : List (κ × V), (kvs.any fun kv => decide (kv.1 = k)) = (jA kvs k).isSome
 | [] => rfl
 | p :: r => by
  rw [List.any_cons]
  by_cases e : p.1 = k
  · simp only [uL e, decide_eq_true e, Bool.true_or, Option.isSome_some]
  · rw [sH e, decide_eq_false e, Bool.false_or]; exact sA k r
theorem gO (kvs : List (κ × V)) (k : κ) (v : V) : (putK kvs k v).length <= kvs.length + 1 := by
 unfold putK
 split
 · rw [List.length_map]; omega
 · rw [List.length_append, List.length_cons, List.length_nil]; omega
theorem ID {kvs : List (κ × V)} {k : κ} (v : V) (h : jA kvs k = none) : putK kvs k v = kvs ++ [(k, v)] := by
 unfold putK
 rw [sA, h]
 exact if_neg (by decide)
theorem RelO.isSome_eq {o : Option V} {u : Option Value} (r : RelO o u) : o.isSome = u.isSome := by
 cases o with
 | none => cases u with
  | none => rfl
  | some _ => exact (show False from r).elim
 | some _ => cases u with
  | none => exact (show False from r).elim
  | some _ => rfl
theorem KV.val {kvs : List (κ × V)} {vs : List (κ × Value)} (r : KV kvs vs) (k : κ) : RelO (jA kvs k) (valueAt vs k) := by
 unfold KV at r
 induction r with
 | nil => exact True.intro
 | @cons p q ps qs h t ih =>
  obtain ⟨h1, h2⟩ := h
  by_cases e : p.1 = k
  · have e' : q.1 = k := h1.symm.trans e
    have b : valueAt (q :: qs) k = some q.2 := by simp [valueAt, List.find?_cons, e']
    rw [uL e, b]; exact h2
  · have e' : ¬ q.1 = k := fun z => e (h1.trans z)
    have b : valueAt (q :: qs) k = valueAt qs k := by simp [valueAt, List.find?_cons, e']
    rw [sH e, b]; exact ih
theorem KV.any {kvs : List (κ × V)} {vs : List (κ × Value)} (r : KV kvs vs) (k : κ) : (kvs.any fun kv => decide (kv.1 = k)) = vs.any fun kv => decide (kv.1 = k) := by
 unfold KV at r
 induction r with
 | nil => rfl
 | cons h t ih => rw [List.any_cons, List.any_cons, ih, h.1]
theorem KV.repl {kvs : List (κ × V)} {vs : List (κ × Value)} (r : KV kvs vs) (k : κ) {y : V} {u : Value} (ry : RelV y u) :
 KV (kvs.map fun kv => if kv.1 = k then (kv.1, y) else kv) (vs.map fun kv => if kv.1 = k then (kv.1, u) else kv) := by
 unfold KV at r ⊢
 induction r with
 | nil => exact .nil
 | @cons p q ps qs h t ih =>
  rw [List.map_cons, List.map_cons]
  refine .cons ?_ ih
  obtain ⟨h1, h2⟩ := h
  by_cases e : p.1 = k
  · rw [if_pos e, if_pos (h1.symm.trans e)]; exact ⟨h1, ry⟩
  · rw [if_neg e, if_neg (fun z => e (h1.trans z))]; exact ⟨h1, h2⟩
theorem KV.put {kvs : List (κ × V)} {vs : List (κ × Value)} (r : KV kvs vs) (k : κ) {y : V} {u : Value} (ry : RelV y u) : KV (putK kvs k y) (stored vs k u) := by
 unfold putK stored
 rw [r.any k]
 by_cases e : (vs.any fun kv => decide (kv.1 = k)) = true
 · rw [if_pos e, if_pos e]; exact r.repl k ry
 · rw [if_neg e, if_neg e]; exact Paired.snoc r ⟨rfl, ry⟩
theorem KV.length {kvs : List (κ × V)} {vs : List (κ × Value)} (r : KV kvs vs) : kvs.length = vs.length := Paired.length r
end
theorem AV {P : Program} {w : World} {k : Key} {u : Value} (r : RelV (kV k) u) : (cV P w).is k u = true := by
 cases k with
 | inl i => obtain ⟨t, e⟩ := (show ∃ t, u = Value.int i t from r); subst e; exact AB P w i t
 | inr x => obtain ⟨t, e⟩ := (show ∃ t, u = Value.str x t from r); subst e; exact zC P w x t
theorem wI {P : Program} {w : World} : ∀ {ks : List Key} {us : List Value}, Vals (ks.map kV) us -> ItemsAre (cV P w) ks us
 | [], _, r => by rw [List.map_nil] at r; cases r; exact .nil
 | k :: ks, _, r => by
  rw [List.map_cons] at r
  cases r with
  | cons h t => exact .cons (AV h) (wI t)
abbrev KT (H : Hp) : List (List Key × V) -> List (List Key × Addr × Value) -> Prop := Paired fun p q => p.1 = q.1 /\ H q.2.1 = some (.tup (p.1.map kV)) /\ RelV p.2 q.2.2
theorem KT.val {H : Hp} {kvs : List (List Key × V)} {xs : List (List Key × Addr × Value)} (r : KT H kvs xs) (k : List Key) : RelO (jA kvs k) ((atKey xs k).map (·.2)) := by
 induction r with
 | nil => exact True.intro
 | @cons p q ps qs h t ih =>
  obtain ⟨h1, _, h2⟩ := h
  by_cases e : p.1 = k
  · have e' : q.1 = k := h1.symm.trans e
    have b : atKey (q :: qs) k = some q.2 := by simp [atKey, List.find?_cons, e']
    rw [uL e, b]; exact h2
  · have e' : ¬ q.1 = k := fun z => e (h1.trans z)
    have b : atKey (q :: qs) k = atKey qs k := by simp [atKey, List.find?_cons, e']
    rw [sH e, b]; exact ih
theorem KT.repl {H : Hp} {kvs : List (List Key × V)} {xs : List (List Key × Addr × Value)} (r : KT H kvs xs) (k : List Key) {y : V} {u : Value} (ry : RelV y u) :
 KT H (kvs.map fun kv => if kv.1 = k then (kv.1, y) else kv) (xs.map (putAt k u)) := by
 induction r with
 | nil => exact .nil
 | @cons p q ps qs h t ih =>
  rw [List.map_cons, List.map_cons]
  refine .cons ?_ ih
  obtain ⟨h1, h2, h3⟩ := h
  unfold putAt
  by_cases e : p.1 = k
  · rw [if_pos e, if_pos (h1.symm.trans e)]; exact ⟨h1, h2, ry⟩
  · rw [if_neg e, if_neg (fun z => e (h1.trans z))]; exact ⟨h1, h2, h3⟩
theorem KT.put {H : Hp} {kvs : List (List Key × V)} {xs : List (List Key × Addr × Value)} (r : KT H kvs xs) (k : List Key) {b : Addr} {y : V} {u : Value} (hb : H b = some (.tup (k.map kV))) (ry : RelV y u) :
 KT H (putK kvs k y) (storedH xs k b u) := by
 have e : (kvs.any fun kv => decide (kv.1 = k)) = (atKey xs k).isSome := by
  rw [sA, (r.val k).isSome_eq, Option.isSome_map]
 unfold putK storedH
 rw [e]
 by_cases q : (atKey xs k).isSome = true
 · rw [if_pos q, if_pos q]; exact r.repl k ry
 · rw [if_neg q, if_neg q]; exact Paired.snoc r ⟨rfl, hb, ry⟩
theorem KT.keeps {H H' : Hp} {kvs : List (List Key × V)} {xs : List (List Key × Addr × Value)} (r : KT H kvs xs) (ht : ∀ b ys, H b = some (.tup ys) -> H' b = some (.tup ys)) : KT H' kvs xs :=
 Paired.mapP r fun _ _ z => ⟨z.1, ht _ _ z.2.1, z.2.2⟩
section
variable {P : Program} {w : World} {H : Hp} {h : Heap} {a : Addr}
theorem VG {u : HO} (ok : HOk P w H h) (e : Rd H a u) : ObjOk P w H h a u := e.ok ok
theorem VH {kvs : List (Key × V)} (ok : HOk P w H h) (e : Rd H a (.dK kvs)) : kvs.length <= sizeLine /\ (a == sysModules) = false /\ ∃ vs, KV kvs vs /\ h.DictOf (cV P w) a vs :=
 show ObjOk P w H h a (.dK kvs) from VG ok e
theorem LM {kvs : List (Key × V)} (ok : HOk P w H h) (e : H a = some (.dK kvs)) : kvs.length <= sizeLine /\ (a == sysModules) = false /\ ∃ vs, KV kvs vs /\ h.DictOf (cV P w) a vs := VH ok (.inl e)
theorem wQ {ks : List Key} (ok : HOk P w H h) (e : H a = some (.tup (ks.map kV))) : (tupleKind (cV P w)).is h ks a := by
 obtain ⟨_, its, r, o, h1, h2, n, h3⟩ := (show ObjOk P w H h a (.tup (ks.map kV)) from ok a _ e)
 exact ⟨o, its.toArray, n, h1, h2, h3, by simpa using wI r⟩
theorem VU {kvs : List (List Key × V)} (ok : HOk P w H h) (e : Rd H a (.dT kvs)) : kvs.length <= sizeLine /\ (a == sysModules) = false /\
 ∃ xs, KT H kvs xs /\ h.DictOfH (tupleKind (cV P w)) a xs := by
 obtain ⟨z, y, xs, r, o, es, ep, h1, h2, h3, h4, h5⟩ := (show ObjOk P w H h a (.dT kvs) from VG ok e)
 refine ⟨z, y, xs, r, o, es, ep, h1, h2, h3, h4, fun x hx => ?_, h5⟩
 have all : ∀ {l : List (List Key × V)} {m : List (List Key × Addr × Value)}, KT H l m -> ∀ x ∈ m, (tupleKind (cV P w)).is h x.1 x.2.1 := by
  intro l m q
  induction q with
  | nil => intro x hx; exact nomatch hx
  | @cons p q ps qs hq t ih =>
   intro x hx
   rcases List.mem_cons.mp hx with e | hx
   · subst e
     exact wQ ok (by rw [<- hq.1]; exact hq.2.1)
   · exact ih x hx
 exact all r x hx
theorem VF {kvs : List (List Key × V)} (ok : HOk P w H h) (e : H a = some (.dT kvs)) : kvs.length <= sizeLine /\ (a == sysModules) = false /\
 ∃ xs, KT H kvs xs /\ h.DictOfH (tupleKind (cV P w)) a xs := VU ok (.inl e)
end
def DGet (H : Hp) (a : Addr) (y : V) (r : Option V) : Prop :=
 (∃ kvs k, Rd H a (.dK kvs) /\ y = kV k /\ r = jA kvs k) \/ ∃ kvs k b, Rd H a (.dT kvs) /\ y = .ref b /\ H b = some (.tup (k.map kV)) /\ r = jA kvs k
def DPut (H : Hp) (a : Addr) (y v : V) (H' : Hp) : Prop :=
 (∃ kvs k, H a = some (.dK kvs) /\ y = kV k /\ kvs.length < sizeLine /\ H' = upd H a (.dK (putK kvs k v))) \/
 ∃ kvs k b, H a = some (.dT kvs) /\ y = .ref b /\ H b = some (.tup (k.map kV)) /\ kvs.length < sizeLine /\ H' = upd H a (.dT (putK kvs k v))
theorem DGet.k {H : Hp} {a : Addr} {kvs : List (Key × V)} {k : Key} (e : H a = some (.dK kvs)) : DGet H a (kV k) (jA kvs k) := .inl ⟨kvs, k, .inl e, rfl, rfl⟩
theorem DGet.t {H : Hp} {a b : Addr} {kvs : List (List Key × V)} {k : List Key} (e : H a = some (.dT kvs)) (eb : H b = some (.tup (k.map kV))) : DGet H a (.ref b) (jA kvs k) := .inr ⟨kvs, k, b, .inl e, rfl, eb, rfl⟩
theorem DPut.k {H : Hp} {a : Addr} {kvs : List (Key × V)} {k : Key} {v : V} (e : H a = some (.dK kvs)) (hl : kvs.length < sizeLine) : DPut H a (kV k) v (upd H a (.dK (putK kvs k v))) := .inl ⟨kvs, k, e, rfl, hl, rfl⟩
theorem DPut.t {H : Hp} {a b : Addr} {kvs : List (List Key × V)} {k : List Key} {v : V} (e : H a = some (.dT kvs)) (eb : H b = some (.tup (k.map kV))) (hl : kvs.length < sizeLine) :
 DPut H a (.ref b) v (upd H a (.dT (putK kvs k v))) := .inr ⟨kvs, k, b, e, rfl, eb, hl, rfl⟩
section
variable {X : Cx} {pins : List (Addr × Obj)} {σ : St} {H : Hp} {s : Shared} {a : Addr} {y v : V} {u r : Value} {o : Option V} {A : Around} {E : Value -> Shared -> Prop}
theorem Inv.big (I : Inv X pins σ H s) : sysModules < s.heap.objs.size := by
 have h : mainGlobals < s.heap.objs.size := (I.mod.glob.keeps I.bk).lt
 exact Nat.lt_trans (by decide) h
theorem aCQ {Q : Value -> Shared -> Prop} (hu : A.units + 1 < cLine) (I : Inv X pins σ H s) (g : DGet H a y o) (ry : RelV y u) (h : ∀ s', Inv X pins σ H s' -> Q (.bool o.isSome) s') :
 wpAny (model X.prog X.w) A (compareOp .In u (.ref a)) Q E s := by
 rcases g with ⟨kvs, k, e, ey, l⟩ | ⟨kvs, k, b, e, ey, eb, l⟩
 · subst ey
   obtain ⟨z, hd, vs, rel, dd⟩ := VH I.hok e
   refine wpAny_in_of (AV ry) hd dd.mapOf ?_
   rw [<- (rel.val k).isSome_eq, <- l]
   exact h _ (I.tok _)
 · subst ey
   cases (show u = Value.ref b from ry)
   obtain ⟨z, hd, xs, rel, dd⟩ := VU I.hok e
   refine wpAny_in_heap (tupleKind_room_in1 hu) (wQ I.hok eb) hd dd ?_
   have q := (rel.val k).isSome_eq
   rw [Option.isSome_map] at q
   rw [<- q, <- l]
   exact h _ (I.tok _)
theorem oM {h' : Heap} {t' : Nat} {ob : HO} (I : Inv X pins σ H s) (mu : Mut (H a)) (hs : Heap.SameBut a s.heap h') (he : ∃ q, h'.get? a = some q) (new : ObjOk X.prog X.w (upd H a ob) h' a ob) :
 Inv X pins σ (upd H a ob) { s with heap := h', toks := t' } :=
 I.write (x := a) (e := a) mu (.inl rfl) (fun b q hb z => (hs.2 b hb).trans z) he new
theorem BZ {P : Program} {w : World} {H' : Hp} {h' : Heap} {kvs : List (Key × V)} {vs : List (Key × Value)} (z : kvs.length <= sizeLine) (hd : (a == sysModules) = false) (rel : KV kvs vs) (dd : h'.DictOf (cV P w) a vs) :
 ObjOk P w H' h' a (.dK kvs) := ⟨z, hd, vs, rel, dd⟩
theorem GW {H' : Hp} {Q : Unit -> Shared -> Prop} (hu : A.units + 1 < cLine) (I : Inv X pins σ H s) (g : DPut H a y v H') (ry : RelV y u) (rv : RelV v r) (h : ∀ s', Inv X pins σ H' s' -> Q () s') :
 wpAny (model X.prog X.w) A (setItem (.ref a) u r) Q E s := by
 rcases g with ⟨kvs, k, e, ey, l, eH⟩ | ⟨kvs, k, b, e, ey, eb, l, eH⟩
 · subst ey eH
   obtain ⟨z, hd, vs, rel, dd⟩ := LM I.hok e
   have hz : vs.length <= sizeLine := by rw [<- rel.length]; exact z
   have hl : (putK kvs k v).length <= sizeLine := by have := gO kvs k v; omega
   refine wpAny_setItem_pairs (hsz := hz) (AV ry) dd fun h' dd' hs => h _ ?_
   have he : ∃ q, h'.get? a = some q := let ⟨q, _, _, hq, _⟩ := dd'; ⟨q, hq⟩
   exact oM I (by rw [e]; exact True.intro) hs he (BZ hl hd (rel.put k rv) dd')
 · subst ey eH
   cases (show u = Value.ref b from ry)
   obtain ⟨z, hd, xs, rel, dd⟩ := VF I.hok e
   have hz : xs.length <= sizeLine := by rw [<- Paired.length rel]; exact z
   have hl : (putK kvs k v).length <= sizeLine := by have := gO kvs k v; omega
   refine wpAny_setItem_heap (hsz := hz) (tupleKind_room_in1 hu) (wQ I.hok eb) dd fun h' dd' hs => h _ ?_
   obtain ⟨q, es, ep, hq, h2, h3, h4, _, h5⟩ := dd'
   refine oM I (by rw [e]; exact True.intro) hs ⟨q, hq⟩ ⟨hl, hd, _, (rel.put k eb rv).keeps fun c ys ec => ?_, q, es, ep, hq, h2, h3, h4, h5⟩
   rw [aI (qL ec e (fun z => nomatch z))]
   exact ec
end
def aCm (ty td : TE) : TE := fun σ H Q => ty σ H fun y H1 => td σ H1 fun x H2 => ∃ a o, x = .ref a /\ DGet H2 a y o /\ Q (.bl o.isSome) H2
def WB (td ty tv : TE) : TS := fun D σ H => tv σ H fun v H1 => td σ H1 fun x H2 => ty σ H2 fun y H3 => ∃ a H4, x = .ref a /\ DPut H3 a y v H4 /\ D.nx σ H4
section
variable {X : Cx} {o i e value : Expr} {pos pos' tpos : Pos} {td ty tv : TE}
theorem aAl (hu : X.A.units + 1 < cLine) (hi : PE X i ty) (ho : PE X o td) : PC X .In i o (aCm ty td) := by
 intro pins s σ H Q I h
 refine thn (hi pins s σ H _ I h) fun iv s1 ⟨y, H1, I1, ry, q1⟩ => thn (ho pins s1 σ H1 _ I1 q1) fun u s2 ⟨x, H2, I2, rx, a, ov, ex, g, q2⟩ => ?_
 subst ex
 obtain rfl : u = Value.ref a := rx
 exact aCQ hu I2 g ry fun s3 I3 => ⟨.bl ov.isSome, H2, I3, rfl, q2⟩
theorem UK (hu : X.A.units + 1 < cLine) (ho : PE X o td) (hi : PE X i ty) (hv : PE X value tv) (hs : swapsWith value (some (.Subscript o i pos')) pos.line X.env = pure false) :
 PS X (.Assign [.Subscript o i pos'] value pos) (WB td ty tv) := by
 intro pins s σ H D I h
 refine wpAny_Assign_Subscript (thn (hv pins s σ H _ I h) fun r s1 ⟨v, H1, I1, rv, q1⟩ => thn (ho pins s1 σ H1 _ I1 q1) fun u s2 ⟨x, H2, I2, rx, q2⟩ => thn (hi pins s2 σ H2 _ I2 q2) fun iv s3 ⟨y, H3, I3, ry, a, H4, ex, g, q3⟩ => ?_) hs
 subst ex
 obtain rfl : u = Value.ref a := rx
 exact GW hu I3 g ry rv fun s4 I4 => ⟨σ, H4, I4, q3⟩
end
theorem sZ {P : Program} {w : World} {H : Hp} (h : Heap) (hb : sysModules < h.objs.size) : ObjOk P w H (h.push { cls := .type "dict", data := .dict #[] }) h.objs.size (.dK []) :=
 ⟨Nat.zero_le _, beq_eq_false_iff_ne.mpr (Ne.symm (Nat.ne_of_lt hb)), [], .nil, Heap.DictOf.new h⟩
theorem AI {P : Program} {w : World} {H : Hp} (h : Heap) (hb : sysModules < h.objs.size) : ObjOk P w H (h.push { cls := .type "dict", data := .dict #[] }) h.objs.size (.dT []) :=
 ⟨Nat.zero_le _, beq_eq_false_iff_ne.mpr (Ne.symm (Nat.ne_of_lt hb)), [], .nil, _, #[], 0, Heap.get?_push_size _ rfl, ⟨rfl, rfl, rfl⟩, rfl, rfl, List.nodup_nil⟩
def LU : TE := fun _ H Q => ∀ p, H p = none -> Q (.ref p) (upd H p (.dK []))
def ON : TE := fun _ H Q => ∀ p, H p = none -> Q (.ref p) (upd H p (.dT []))
section
variable {X : Cx} {pos : Pos}
theorem JY : PE X (.Dict [] [] pos) LU := fun pins s σ H Q I h =>
 wpAny_Dict_empty ⟨.ref s.heap.objs.size, _, I.laid (a := s.heap.objs.size) (o := .dK []) (t' := s.toks) (fun _ _ q => Heap.get?_push_of_some _ q) (Nat.le_refl _) (sZ s.heap I.big), rfl, h _ (I.hok.fresh (Nat.le_refl _))⟩
theorem KB : PE X (.Dict [] [] pos) ON := fun pins s σ H Q I h =>
 wpAny_Dict_empty ⟨.ref s.heap.objs.size, _, I.laid (a := s.heap.objs.size) (o := .dT []) (t' := s.toks) (fun _ _ q => Heap.get?_push_of_some _ q) (Nat.le_refl _) (AI s.heap I.big), rfl, h _ (I.hok.fresh (Nat.le_refl _))⟩
end
def xN : List (TE × TE) -> St -> Hp -> (List (V × V) -> Hp -> Prop) -> Prop
 | [], _, H, Q => Q [] H
 | (tk, tv) :: r, σ, H, Q => tk σ H fun x H1 => tv σ H1 fun y H2 => xN r σ H2 fun ps H3 => Q ((x, y) :: ps) H3
abbrev VV : List (V × V) -> List (Value × Value) -> Prop := Paired fun p q => RelV p.1 q.1 /\ RelV p.2 q.2
def PPs (X : Cx) (pos : Pos) (keys : List (Option Expr)) (values : List Expr) (trs : List (TE × TE)) : Prop :=
 ∀ (pins : List (Addr × Obj)) (s : Shared) (σ : St) (H : Hp) (Q : List (V × V) -> Hp -> Prop), Inv X pins σ H s -> xN trs σ H Q ->
  wpAny (model X.prog X.w) X.A (evalPairs (pairTrees keys values X.env pos)) (fun vs s' => ∃ ps H', Inv X pins σ H' s' /\ VV ps vs /\ Q ps H') X.xe s
theorem RV {X : Cx} {pos : Pos} : PPs X pos [] [] [] := fun pins s σ H Q I h => pairTrees_nil_walk ⟨[], H, I, .nil, h⟩
theorem KR {X : Cx} {pos : Pos} {k v : Expr} {ks : List (Option Expr)} {vs : List Expr} {tk tv : TE} {trs : List (TE × TE)} (hk : PE X k tk) (hv : PE X v tv) (hr : PPs X pos ks vs trs) :
 PPs X pos (some k :: ks) (v :: vs) ((tk, tv) :: trs) := fun pins s σ H Q I h =>
 pairTrees_cons_walk (thn (hk pins s σ H _ I h) fun u s1 ⟨x, H1, I1, rx, q1⟩ => thn (hv pins s1 σ H1 _ I1 q1) fun w2 s2 ⟨y, H2, I2, ry, q2⟩ =>
  thn (hr pins s2 σ H2 _ I2 q2) fun ws s3 ⟨ps, H3, I3, rel, q3⟩ => ⟨(x, y) :: ps, H3, I3, .cons ⟨rx, ry⟩ rel, q3⟩)
def lB (kvs more : List (Key × V)) : List (Key × V) := more.foldl (fun acc kv => putK acc kv.1 kv.2) kvs
theorem KV.merge : ∀ {more : List (Key × V)} {rs : List (Key × Value)} {kvs : List (Key × V)} {vs : List (Key × Value)}, KV more rs -> KV kvs vs -> KV (lB kvs more) (merged vs rs) := by
 intro more rs kvs vs r
 unfold KV at r
 induction r generalizing kvs vs with
 | nil => intro q; exact q
 | @cons p q ps qs h t ih =>
  intro r0
  have e : KV (putK kvs p.1 p.2) (stored vs q.1 q.2) := by
   have := r0.put p.1 h.2
   rw [<- h.1]; exact this
  exact ih e
theorem mZ : ∀ (more kvs : List (Key × V)), (lB kvs more).length <= kvs.length + more.length
 | [], kvs => by show kvs.length <= kvs.length + 0; omega
 | p :: r, kvs => by
  have h1 := mZ r (putK kvs p.1 p.2)
  have h2 := gO kvs p.1 p.2
  show (lB (putK kvs p.1 p.2) r).length <= _
  rw [List.length_cons]; omega
theorem tR {P : Program} {w : World} : ∀ {kvs : List (Key × V)} {ws : List (Value × Value)}, VV (kvs.map fun kv => (kV kv.1, kv.2)) ws -> ∃ rs, Carries (cV P w) ws rs /\ KV kvs rs
 | [], _, r => by rw [List.map_nil] at r; cases r; exact ⟨[], True.intro, .nil⟩
 | p :: kvs, _, r => by
  rw [List.map_cons] at r
  cases r with
  | @cons a b as bs h t =>
   obtain ⟨rs, c, q⟩ := tR (P := P) (w := w) t
   obtain ⟨b1, b2⟩ := b
   exact ⟨(p.1, b2) :: rs, ⟨AV h.1, rfl, c⟩, .cons ⟨rfl, h.2⟩ q⟩
def UO (trs : List (TE × TE)) : TE := fun σ H Q => ∀ p, H p = none -> xN trs σ (upd H p (.dK [])) fun ps H2 => H2 p = some (.dK []) /\ ∃ kvs : List (Key × V), ps = kvs.map (fun kv => (kV kv.1, kv.2)) /\ kvs.length <= 15 /\ Q (.ref p) (upd H2 p (.dK (lB [] kvs)))
theorem UJ {X : Cx} {pos : Pos} {keys : List (Option Expr)} {values : List Expr} {trs : List (TE × TE)} (h : PPs X pos keys values trs) (hall : keys.all (·.isSome) = true) (hl : keys.length = values.length) (h0 : keys ≠ [])
 (h15 : keys.length <= 15) : PE X (.Dict keys values pos) (UO trs) := by
 intro pins s σ H Q I q
 have hn := I.hok.fresh (Nat.le_refl s.heap.objs.size)
 have I1 := I.laid (a := s.heap.objs.size) (o := .dK []) (h' := s.heap.push { cls := .type "dict", data := .dict #[] }) (t' := s.toks) (fun _ _ q => Heap.get?_push_of_some _ q) (Nat.le_refl _) (sZ s.heap I.big)
 refine wpAny_Dict_walk (knd := cV X.prog X.w) hall hl h0 h15 (thn (h pins _ σ _ _ I1 (q _ hn)) fun ws s2 ⟨ps, H2, I2, rel, e, kvs, ep, lk, q2⟩ => ?_)
 subst ep
 obtain ⟨rs, c, rk⟩ := tR (P := X.prog) (w := X.w) rel
 obtain ⟨z, hd, vs0, r0, dd⟩ := LM I2.hok e
 cases r0
 refine ⟨rs, c, dd, fun h' dd' hs => ⟨.ref s.heap.objs.size, _, ?_, rfl, q2⟩⟩
 have hz : (lB [] kvs).length <= sizeLine := by
  have h1 := mZ kvs []
  rw [List.length_nil] at h1
  rw [sizeLine_eq]; omega
 have he : ∃ q, h'.get? s.heap.objs.size = some q := let ⟨q, _, _, hq, _⟩ := dd'; ⟨q, hq⟩
 exact oM I2 (by rw [e]; exact True.intro) hs he (BZ hz hd (rk.merge .nil) dd')
structure M1 (X : Cx) (o : Expr) (m : Str) (apos : Pos) (e : Expr) (cpos : Pos) : Prop where
 base : attributeBase o m X.env (eval o X.env) = eval o X.env
 few : ((backTo cpos (starEach [e] X.env)).all (fun x => !x.1) && (backToKw cpos (keywordEach [] X.env)).all (fun x => x.1.isSome)
  && decide (([e] : List Expr).length + ([] : List Keyword).length + (if ([] : List Keyword).isEmpty then 0 else 1) < 30)) = true
 line : (apos.endLine == cpos.line) = true
 trees : backTo cpos (starEach [e] X.env) = [(false, eval e X.env)]
structure M2 (X : Cx) (o : Expr) (m : Str) (apos : Pos) (e f : Expr) (cpos : Pos) : Prop where
 base : attributeBase o m X.env (eval o X.env) = eval o X.env
 few : ((backTo cpos (starEach [e, f] X.env)).all (fun x => !x.1) && (backToKw cpos (keywordEach [] X.env)).all (fun x => x.1.isSome)
  && decide (([e, f] : List Expr).length + ([] : List Keyword).length + (if ([] : List Keyword).isEmpty then 0 else 1) < 30)) = true
 line : (apos.endLine == cpos.line) = true
 trees : backTo cpos (starEach [e, f] X.env) = [(false, eval e X.env), (false, eval f X.env)]
end L2
namespace Att
open PySem PySem.W PySem.Calls PyProof.Rows
theorem rG {P : Params} {h : Heap} : ∀ (ns : List Int) (vs : List Value), WellAll P h vs (ns.map WData.int) -> IntsAre vs ns := by
 intro ns
 induction ns with
 | nil =>
  intro vs w
  rw [List.map_nil] at w
  cases w
  exact .nil
 | cons n ns ih =>
  intro vs w
  rw [List.map_cons] at w
  cases w with
  | cons a b =>
   cases a
   exact .cons _ _ (ih _ b)
theorem GI {l : OpenLaw} {n : Nat} (hn : l.most = some n) {P : Params} {h : Heap} {args : List WData} {vals : List Value}
 (hpre : l.row.toRowW.claim.pre args = true) (hwl : WellAll P h vals args) :
 ∃ a vs ns, vals = [Value.ref a] /\ args = [WData.list (ns.map WData.int)] /\ h.get? a = some { cls := .type "list", data := .seq vs.toArray } /\ IntsAre vs ns /\ ns.length <= n := by
 have hsh : WShape.hasAll [] args [.list .int] = true := (pre_splitW hpre).1
 have hc : l.pre.holds [] { args := args } = true := (pre_splitW hpre).2
 obtain ⟨d, r, rfl, h1, h2⟩ := hasAllW_cons hsh
 obtain rfl := hasAllW_nil h2
 obtain ⟨xs, rfl, h3⟩ := hasW_list h1
 obtain ⟨ns, rfl⟩ := items_int h3
 have hlen : ns.length <= n := by
  unfold OpenLaw.pre at hc
  have h4 : (WTm.not (.lt (.lit (.int (n : Int))) (.len (.arg 0)))).holds [] { args := [.list (ns.map .int)] } = true := by
   have h4 := (holds_andW hc).1
   rw [hn] at h4
   exact h4
  have h5 := condW_of h4 (w_not (w_lt w_lit (w_len_list (w_arg rfl))))
  rw [List.length_map] at h5
  refine Nat.le_of_not_lt fun q => ?_
  have q' : (n : Int) < ((ns.length : Nat) : Int) := by omega
  first
   | (rw [decide_eq_true q'] at h5; exact absurd h5 (by decide))
   | (simp at h5; omega)
 cases hwl with
 | cons w1 w2 =>
  cases w2
  cases w1 with
  | list ho hall => exact ⟨_, _, ns, rfl, rfl, ho, rG ns _ hall, hlen⟩
theorem GC (l : OpenLaw) (args : List WData) : l.row.toRowW.claim.post args (.bool true) args = true :=
 postW_of (r := l.row.toRowW) (X := (true == true))
  (show WShape.has [] (.bool true) .bool = true by first | rfl | decide | simp [WShape.has, WShape.arms, WShape.armsAll])
  (show (WTm.eq .res (.lit (.bool true))).value [] { args := args, res := some (.bool true), after := args } = some (.bool (true == true)) from w_eq_bool (w_res rfl) w_lit) rfl
theorem attach_call {l : OpenLaw} {n : Nat} {q : Program} {loose : List Str} {XP : (Str -> Option Value) -> Heap -> Prop} {YP : World -> Heap -> Prop} {d : DefRec}
 (hn : l.most = some n) (hdf : d.params.defaults = [])
 (call : ∀ (w : World) (s₀ s₁ : Shared) (mg mb : Str -> Option Value) (fa : Addr) (o : Obj) (pm cd doc : Value) (a : Addr) (vs : List Value) (ns : List Int),
  Ground q loose [] XP w s₀ mg mb s₁.heap -> YP w s₁.heap ->
  s₁.heap.get? fa = some o -> o.data = .func (docDef d.name d.params d.body d.scope pm cd doc) -> s₁.heap.CodeRec cd d.name -> mg d.name = some (.ref fa) ->
  s₁.heap.get? a = some { cls := .type "list", data := .seq vs.toArray } -> IntsAre vs ns -> ns.length <= n -> s₁.gens = #[] ->
  codeAny (model l.prog w) callerA (.call (.ref fa) ⟨[.ref a], []⟩) (fun r s' => r = .ok (.ret (.bool true)) /\ OldK s₁.heap s'.heap /\ s'.os = s₁.os /\ AllBare s'.gens) s₁) :
 WalkO q loose XP YP l.row.toRowW d [] (fun f vs => PySem.call f vs) := by
 intro w s₀ s₁ mg mb G Y fa o pm cd doc dV kV ho hd hcd hD hmg hg args vals as hpre hlay hrd hwl hlo
 obtain rfl : dV = .none := Dflts.none hD hdf
 obtain rfl : kV = .none := Dflts.noKw hD
 obtain ⟨a, vs, ns, rfl, rfl, hobj, hints, hlen⟩ := GI hn hpre hwl
 refine enter_call (codeAny_mono (call w s₀ s₁ mg mb fa o pm cd doc a vs ns G Y ho (fd_plain hd) hcd hmg hobj hints hlen hg) fun r s' hq => ?_)
 obtain ⟨rfl, h2, h3, h4⟩ := hq
 exact ⟨.inl ⟨.bool true, .bool true, [], rfl, fun _ => rfl, .bool true, GC l _, fun _ => ⟨List.Pairwise.nil, fun _ hm => (nomatch hm)⟩⟩, h2, h3, h4⟩
section
variable {prog : Program} {w : World} {A : Around} {E : Value -> Shared -> Prop} {s : Shared} {K : Frag}
end
end Att
namespace L2
open PySem PySem.Spec PyProof.Rows
theorem vM : ∀ {vs : List Value} {ns : List Int}, IntsAre vs ns -> Vals (ns.map V.int) vs
 | _, _, .nil => .nil
 | _, _, .cons n t h => .cons ⟨t, rfl⟩ (vM h)
def YW (H : Hp) : Prop := ∀ b, H b = none \/ ∃ o xs, H b = some (.frz o (.lst xs))
theorem KZ {P : Program} {w : World} {K : PySem.W.Frag} {mg mb : Str -> Option Value} {CX : CXT} {k : Nat} {fa a : Addr} {fd : FuncData} {x : Str} {sp : Sp} {s₁ : Shared} {vs : List Value} {ns : List Int}
 (KX : K.In s₁.heap) (hns : s₁.heap.Ns mainGlobals mg) (hb : s₁.heap.Ns builtinsNs mb) (hbb : ∀ x : Str, x ≠ "__name__" -> mb x = bootBuiltins x) (hlim : s₁.heap.NoLimit) (hsm : ∃ mm, s₁.heap.Ns sysModules mm) (hg : s₁.gens = #[])
 (ha : s₁.heap.get? a = some { cls := .type "list", data := .seq vs.toArray }) (hi : IntsAre vs ns) (hl : ns.length <= sizeLine) (hr : Room k callerA)
 (F : ∀ base : Heap, K.In base -> base.Ns mainGlobals mg -> FnOk P w K mg base CX k fa fd [x] sp) (hbind : ∀ (s : Shared) (u : Value), BindsTo s fd ⟨[u], []⟩ [(x, u)])
 (hsp : ∀ H : Hp, YW H -> SqL K H a (ns.map V.int) -> sp [.ref a] H (fun v _ => v = .bl true) fun _ _ _ => False)
 (hCX : ∀ H e s', CX [] H s₁ (fun _ _ _ => False) e s' -> False) :
 codeAny (model P w) callerA (.call (.ref fa) ⟨[.ref a], []⟩) (fun r s' => r = .ok (.ret (.bool true)) /\ OldK s₁.heap s'.heap /\ s'.os = s₁.os /\ AllBare s'.gens) s₁ := by
 have rv := vM hi
 have lenV := hi.length
 have core : ∀ H : Hp, YW H -> SqL K H a (ns.map V.int) -> HOk P w H s₁.heap -> (∀ b, H b ≠ none -> b = a) -> (H a ≠ none -> K.lookup a = none) ->
  codeAny (model P w) callerA (.call (.ref fa) ⟨[.ref a], []⟩) (fun r s' => r = .ok (.ret (.bool true)) /\ OldK s₁.heap s'.heap /\ s'.os = s₁.os /\ AllBare s'.gens) s₁ := by
  intro H hO hS hok hA hK
  have base_of : ∀ {b : Addr} {o : Obj}, s₁.heap.get? b = some o -> H b = none -> (yF s₁.heap H).get? b = some o := fun e n => JD e n
  have noA : ∀ {b : Addr} {o : Obj} {es : Array DictEntry} {ep : Nat}, s₁.heap.get? b = some o -> o.data = .dict es ep -> H b = none := fun {b o es ep} e d => by
   cases q : H b with
   | none => rfl
   | some u =>
    have e' : b = a := hA b (by rw [q]; simp)
    subst e'
    rw [ha] at e; cases e
    have d' : Data.seq vs.toArray _ = Data.dict es ep := d
    cases d'
  have nsK : ∀ {b : Addr} {m : Str -> Option Value}, s₁.heap.Ns b m -> (yF s₁.heap H).Ns b m := fun {b m} ⟨o, es, ep, e, d, r⟩ => ⟨o, es, ep, base_of e (noA e d), d, r⟩
  have hKb : K.In (yF s₁.heap H) := fun b o e => base_of (KX b o e) (by
   cases q : H b with
   | none => rfl
   | some u =>
    have e' : b = a := hA b (by rw [q]; simp)
    subst e'
    rw [hK (by rw [q]; simp)] at e; cases e)
  have hM : Mod K mg (yF s₁.heap H) := ⟨hKb, nsK hns, ⟨mb, nsK hb, hbb⟩, (let ⟨mc, h1, h2⟩ := hlim; ⟨mc, nsK h1, h2⟩), (let ⟨mm, hmm⟩ := hsm; let ⟨o, es, ep, h1, h2, _⟩ := nsK hmm; ⟨o, es, ep, h1, h2⟩)⟩
  have e0 : Env0 P w K mg (yF s₁.heap H) callerA [] s₁ H := ⟨rfl, hM, fun b o e => UB e, Nat.le_of_eq (GJ _ _), trivial, fun b hb => absurd (show b ∈ ([] : List Addr) from hb) (by simp), hok, .of_eq hg⟩
  refine codeAny_mono ((F _ hKb (nsK hns)).run callerA [] s₁ H ⟨[.ref a], []⟩ [.ref a] [.ref a] _ _ hr e0 (hbind s₁ (.ref a)) (.cons rfl .nil) (hsp H hO hS)) fun r s' h => ?_
  cases r with
  | error e => exact (hCX H e s' h).elim
  | ok fl =>
   cases fl with
   | next => exact False.elim h
   | brk => exact False.elim h
   | cont => exact False.elim h
   | ret u =>
    obtain ⟨v, H', os, bare, un, hok', r', q⟩ := h
    have q' : v = .bl true := q
    subst q'
    obtain rfl : u = Value.bool true := r'
    refine ⟨rfl, OldK.of_keep fun b o e => ?_, os, bare⟩
    cases q : H b with
    | none => exact un.keep b o e q (by intro z; exact absurd (show b ∈ ([] : List Addr) from z) (by simp)) (by simp)
    | some u =>
     rcases hO b with z | ⟨ob, xs, z⟩
     · rw [q] at z; cases z
     · have z2 := un.frzs b ob _ z
       obtain ⟨e1, _⟩ := hok b _ z
       obtain ⟨e2, _⟩ := hok' b _ z2
       rw [e] at e1; cases e1
       exact e2
 cases hk : K.lookup a with
 | some o =>
  have e := KX a o hk
  rw [ha] at e
  cases e
  refine core (fun _ => none) (fun _ => .inl rfl) (.inr ⟨_, vs.toArray, _, hk, rfl, rfl, rfl, by rw [List.size_toArray, lenV]; exact hl, by simpa using rv⟩) (fun b u z => by have z' : (none : Option HO) = some u := z; cases z') (fun b z => absurd rfl z) fun z => absurd rfl z
 | none =>
  refine core (fun b => if b = a then some (.frz { cls := .type "list", data := .seq vs.toArray } (.lst (ns.map V.int))) else none) (fun b => ?_) (.inl (.inr ⟨{ cls := .type "list", data := .seq vs.toArray }, if_pos rfl⟩)) (fun b u z => ?_) (fun b z => ?_) fun _ => hk
  · by_cases hb : b = a
    · exact .inr ⟨_, _, if_pos hb⟩
    · exact .inl (if_neg hb)
  · by_cases hb : b = a
    · have z' := (if_pos hb).symm.trans z
      cases z'
      subst hb
      exact ⟨ha, by rw [List.length_map]; exact hl, vs, _, rv, ha⟩
    · have z' := (if_neg hb).symm.trans z
      cases z'
  · by_cases hb : b = a
    · exact hb
    · exact absurd (if_neg hb) z
end L2
namespace L2
open PySem PySem.Spec PyProof.Rows
abbrev KOf {K : PySem.W.Frag} {h : Heap} (_ : K.In h) : PySem.W.Frag := K
theorem walk_of {l : PySem.W.OpenLaw} {n k : Nat} {q : Program} (hq : PyProof.Rows.importsNone q = true) {loose : List Str} {XP : (Str -> Option Value) -> Heap -> Prop} {YP : World -> Heap -> Prop} {d : DefRec} {K : Params -> PySem.W.Frag} {CX : World -> CXT} {sp : World -> Sp} {x : Str}
 (hn : l.most = some n) (hn2 : n <= sizeLine) (hdf : d.params.defaults = []) (hr : Room k callerA)
 (hY : ∀ (w : World) (h : Heap), YP w h -> (K w.params).In h)
 (F : ∀ (w : World) (mg : Str -> Option Value) (fa : Addr) (h : Heap), (K w.params).In h -> h.Ns mainGlobals mg -> mg d.name = some (.ref fa) ->
  ∃ fd : FuncData, (∀ (s : Shared) (u : Value), BindsTo s fd ⟨[u], []⟩ [(x, u)]) /\
   ∀ base : Heap, (K w.params).In base -> base.Ns mainGlobals mg -> FnOk l.prog w (K w.params) mg base (CX w) k fa fd [x] (sp w))
 (hsp : ∀ (w : World) (H : Hp) (a : Addr) (ns : List Int), ns.length <= n -> YW H -> SqL (K w.params) H a (ns.map V.int) -> sp w [.ref a] H (fun v _ => v = .bl true) fun _ _ _ => False)
 (hCX : ∀ (w : World) (H : Hp) (s : Shared) (e : Value) (s' : Shared), CX w [] H s (fun _ _ _ => False) e s' -> False) :
 PySem.W.WalkO q loose XP YP l.row.toRowW d [] (fun f vs => PySem.call f vs) := by
 refine Att.attach_call hn hdf fun w s₀ s₁ mg mb fa o pm cd doc a vs ns G Y ho hd hcd hmg hobj hints hlen hg => ?_
 have KX := hY w _ Y
 obtain ⟨fd, hb, hF⟩ := F w mg fa _ KX G.T.g hmg
 exact KZ KX G.T.g G.T.b G.T.builtins G.T.nolimit (let ⟨mm, hmm, _⟩ := (G.T.seer hq).mods; ⟨mm, hmm⟩) hg hobj hints (Nat.le_trans hlen hn2) hr hF hb (fun H hO hS => hsp w H a ns hlen hO hS) fun H e s' => hCX w H s₁ e s'
end L2
/- THE LAST THEOREM (shape; LID, My.* are yours):
 My.Adr: a structure of the addresses that your layer names (classes, functions); My.Txt K t: a structure (Prop) of the equations over K;
 My.txt_mk : {K} {implicit addresses ..} (e1 : nsIn K mainGlobals "law" = some (some (.ref f))) (e2 : K.lookup f = some ⟨oc, od, .func (fnOf "law" "law" params body scope dV kV doc pm an cdv ct), sl⟩) (e3 : codeIn K cdv "law" = true) .. : ∃ t, My.Txt K t
set_option maxRecDepth 100000 in
set_option maxHeartbeats 0 in
theorem PySem.Challenge.cw_LID_holds : PySem.Challenge.rw_LID.Holds := by
 w_on; o_law; k_head; (case hw => w_witness2)
 k_fill
 refine L2.walk_of (l := PySem.Challenge.rw_LID) (n := 63) (k := 40) (x := "script") (CX := fun w => ..) (sp := fun _ => My.sp_law) rfl (by decide) rfl ⟨rfl, by decide, by decide⟩ (fun w h Y => PySem.W.kIn_of Y) ?F ?S ?C
 case F =>
  intro w mg fa h KX G hmg
  have T : ∃ t, My.Txt (L2.KOf KX) t := by
   dsimp only [L2.KOf]                          -- K must stand as «<heap const> w.params» for k_is
   refine' My.txt_mk ?e1 ?e2 ?e3 ..
   (case e1 => PySem.W.k_is)                    -- in the order: a name -> its address -> its object -> its parts
   (case e2 => PySem.W.k_is)
   ..
  obtain ⟨t, T⟩ := T
  have e0 := hmg.symm.trans (PySem.W.mg_of KX G T.law)
  cases e0                                       -- fa is the law's own address
  exact ⟨_, fun s u => .of_eq rfl, fun base kb nb => My.law_fn T kb nb⟩     -- if «.of_eq rfl» comes too early: refine' ⟨_, ?b, fun base kb nb => My.law_fn T kb nb⟩; exact fun s u => .of_eq rfl
 case S => exact fun w H a ns hl hO hS => ..
 case C => exact ..
(the tactic k_is has no namespace: write k_is) -/
namespace L2
open PySem PySem.Spec PyProof.Rows
def inClass (s : Stmt) (j : Nat) : Stmt := match s with
 | .ClassDef _ _ _ body _ _ _ _ _ _ _ => body.getD j (.Pass ⟨0, 0, 0, 0⟩)
 | _ => .Pass ⟨0, 0, 0, 0⟩
def cW (s : Stmt) : Arguments := match s with
 | .FunctionDef _ a _ _ _ _ _ _ _ _ => a
 | _ => { posonlyargs := [], args := [], vararg := none, kwonlyargs := [], kw_defaults := [], kwarg := none, defaults := [] }
def bI (s : Stmt) : List Stmt := match s with
 | .FunctionDef _ _ b _ _ _ _ _ _ _ => b
 | _ => []
def aG (s : Stmt) : Scope := match s with
 | .FunctionDef _ _ _ _ _ _ sc _ _ _ => sc
 | _ => { kind := .function, names := [], isGenerator := false, isCoroutine := false }
abbrev CX0 : CXT := fun _ _ _ _ _ _ => False
abbrev E0 : XK := fun _ _ _ => False
theorem aBC {X : Cx} : BO CX0 X E0 := fun _ _ _ _ _ _ _ h => h.elim
structure Fun (K : PySem.W.Frag) (x qual : Str) (st : Stmt) (f : Addr) (fd : FuncData) : Prop where
 ex : ∃ (oc : Value) (od : Option Addr) (kV doc pm : Value) (an : Option Addr) (cdv ct : Value) (osl : Array (Option Value)),
  fd = PySem.W.fnOf x qual (cW st) (bI st) (aG st) .none kV doc pm an cdv ct /\ K.lookup f = some ⟨oc, od, .func fd, osl⟩ /\ PySem.W.codeIn K cdv qual = true
 kp : PySem.W.keepIn K (.ref f) = true
section
variable {P : Program} {w : World} {K : PySem.W.Frag} {mg : Str -> Option Value} {base : Heap}
theorem Fun.ok {x qual : Str} {st : Stmt} {f : Addr} {fd : FuncData} {N ps : List Str} {k : Nat} {sp : Sp} {q : Bool} (F : Fun K x qual st f fd) (S : aS N ps (aG st)) (len : ∀ vs H Q E, sp vs H Q E -> vs.length = ps.length)
 (hbody : ∀ (cdv : Value) (A : Around) (outer : List Env) (s : Shared) (H : Hp) (vs : List V) (Q : VK) (E : XK), Room k (A.deeper (envOfC qual (aG st) s.heap.objs.size f cdv)) q -> sp vs H Q E ->
  ∃ t, PSs (jB CX0 P w K mg base N qual (aG st) f cdv A outer s H E q).nox (bI st) t /\ t { nx := fun _ H' => Q .non H', rt := Q } (start N vs) H) : FnOk P w K mg base CX0 (k + 1) f fd ps sp q := by
 obtain ⟨oc, od, kV, doc, pm, an, cdv, ct, osl, rfl, lk, hcd⟩ := F.ex
 refine VR lk hcd S len fun A outer s H vs Q E hr hsp => ?_
 obtain ⟨t, h, z⟩ := hbody cdv A outer s H vs Q E hr hsp
 exact ⟨t, h.nox, z⟩
theorem Fun.binds {x qual : Str} {st : Stmt} {f : Addr} {fd : FuncData} {ps : List Str} (F : Fun K x qual st f fd)
 (h : ∀ (kV doc pm : Value) (an : Option Addr) (cdv ct : Value) (us : List Value), us.length = ps.length -> bindArgs (PySem.W.fnOf x qual (cW st) (bI st) (aG st) .none kV doc pm an cdv ct) ⟨us, []⟩ = pure (ps.zip us)) : Binds K fd ps [] := by
 obtain ⟨oc, od, kV, doc, pm, an, cdv, ct, osl, rfl, lk, hcd⟩ := F.ex
 exact .all (h kV doc pm an cdv ct)
theorem NP {x qual : Str} {st : Stmt} {f : Addr} {oc : Value} {od an : Option Addr} {osl : Array (Option Value)} {kV doc pm cdv ct : Value} (l : K.lookup f = some ⟨oc, od, .func (PySem.W.fnOf x qual (cW st) (bI st) (aG st) .none kV doc pm an cdv ct), osl⟩)
 (c : PySem.W.codeIn K cdv qual = true) (k : PySem.W.keepIn K (.ref f) = true) : Fun K x qual st f (PySem.W.fnOf x qual (cW st) (bI st) (aG st) .none kV doc pm an cdv ct) := ⟨⟨oc, od, kV, doc, pm, an, cdv, ct, osl, rfl, l, c⟩, k⟩
end
def Same (H H' : Hp) : Prop := ∀ b o, H b = some o -> H' b = some o
theorem Same.refl (H : Hp) : Same H H := fun _ _ h => h
theorem Same.trans {H H1 H2 : Hp} (a : Same H H1) (b : Same H1 H2) : Same H H2 := fun c o h => b c o (a c o h)
theorem Same.free {H H' : Hp} (e : Same H H') {l : Addr} (h : H' l = Option.none) : H l = Option.none := by
 cases q : H l with
 | none => rfl
 | some o =>
  rw [e l o q] at h
  cases h
theorem Same.seq {K : PySem.W.Frag} {H H' : Hp} {a : Addr} {xs : List V} (e : Same H H') (h : SqL K H a xs) : SqL K H' a xs := by
 rcases h with (h | ⟨o, h⟩) | h
 · exact .inl (.inl (e _ _ h))
 · exact .inl (.inr ⟨o, e _ _ h⟩)
 · exact .inr h
end L2
end
section
set_option Elab.async false
set_option linter.all false
set_option maxRecDepth 100000
set_option maxHeartbeats 4000000
namespace L2
open PySem PySem.Spec PyProof.Rows
def eD (env : Env) : List (Str × NameKind) -> List (Str × Addr) -> List (Str × Addr)
 | [], cs => cs
 | y :: r, cs => eD env r (if (y.2 == NameKind.free) = true then (y.1, (env.cells.lookup y.1).getD 0) :: cs else cs)
theorem nW {env : Env} : ∀ (l : List (Str × NameKind)) (cs : List (Str × Addr)), (∀ y ∈ l, y.2 = .free -> ∃ c, env.cells.lookup y.1 = some c) ->
 (forIn l cs fun (x : Str × NameKind) (r : List (Str × Addr)) => if (x.2 == NameKind.free) = true then (do
  let a <- cellOf env x.1
  pure (ForInStep.yield ((x.1, a) :: r))) else pure (ForInStep.yield r)) = (pure (eD env l cs) : Sem (List (Str × Addr)))
 | [], cs, _ => rfl
 | y :: l, cs, h => by
  rw [List.forIn_cons]
  by_cases hk : (y.2 == NameKind.free) = true
  · obtain ⟨c, hc⟩ := h y List.mem_cons_self (by simpa using hk)
    have e1 : cellOf env y.1 = pure c := by unfold cellOf; rw [hc]
    rw [if_pos hk, e1]
    show (forIn l ((y.1, c) :: cs) _ : Sem _) = _
    rw [nW l _ fun z hz => h z (List.mem_cons_of_mem _ hz)]
    conv => rhs; unfold eD
    rw [if_pos hk, hc]
    rfl
  · rw [if_neg hk]
    show (forIn l cs _ : Sem _) = _
    rw [nW l _ fun z hz => h z (List.mem_cons_of_mem _ hz)]
    conv => rhs; unfold eD
    rw [if_neg hk]
theorem sE {scope : Scope} {env : Env} (h : ∀ y ∈ scope.names, y.2 = .free -> ∃ c, env.cells.lookup y.1 = some c) : closureFor scope env = pure (eD env scope.names []) := by
 have e := nW (env := env) scope.names [] h
 unfold closureFor
 show ((forIn scope.names ([] : List (Str × Addr)) fun (x : Str × NameKind) (r : List (Str × Addr)) => if (x.2 == NameKind.free) = true then (do
  let a <- cellOf env x.1
  pure (ForInStep.yield ((x.1, a) :: r))) else pure (ForInStep.yield r)) >>= fun z => pure z : Sem (List (Str × Addr))) = _
 rw [e]
 rfl
theorem vV {env : Env} : ∀ (l : List (Str × NameKind)) (cs : List (Str × Addr)), (∀ y ∈ l, y.2 = .free -> ∃ c, env.cells.lookup y.1 = some c) -> (∀ x c, cs.lookup x = some c -> env.cells.lookup x = some c) ->
 ∀ x c, (eD env l cs).lookup x = some c -> env.cells.lookup x = some c
 | [], cs, _, h, x, c, e => h x c e
 | y :: l, cs, hf, h, x, c, e => by
  unfold eD at e
  refine vV l _ (fun z hz => hf z (List.mem_cons_of_mem _ hz)) ?_ x c e
  intro z d ez
  by_cases hk : (y.2 == NameKind.free) = true
  · rw [if_pos hk] at ez
    obtain ⟨c', hc'⟩ := hf y List.mem_cons_self (by simpa using hk)
    rw [hc'] at ez
    rw [List.lookup_cons] at ez
    by_cases hz : (z == y.1) = true
    · rw [hz] at ez
      have hz' : z = y.1 := by simpa using hz
      rw [hz', hc']
      exact ez
    · have hz' : (z == y.1) = false := by simpa using hz
      rw [hz'] at ez
      exact h z d ez
  · rw [if_neg hk] at ez
    exact h z d ez
theorem pR {env : Env} : ∀ (l : List (Str × NameKind)) (cs : List (Str × Addr)) (x : Str), ((x, NameKind.free) ∈ l \/ ∃ c, cs.lookup x = some c) -> ∃ c, (eD env l cs).lookup x = some c
 | [], cs, x, h => by
  rcases h with h | h
  · exact absurd h (by simp)
  · exact h
 | y :: l, cs, x, h => by
  unfold eD
  refine pR l _ x ?_
  rcases h with h | ⟨c, hc⟩
  · rcases List.mem_cons.mp h with e | e
    · subst e
      refine .inr ?_
      rw [if_pos (by rfl)]
      exact ⟨(env.cells.lookup x).getD 0, by rw [List.lookup_cons]; simp⟩
    · exact .inl e
  · refine .inr ?_
    by_cases hk : (y.2 == NameKind.free) = true
    · rw [if_pos hk, List.lookup_cons]
      by_cases hz : (x == y.1) = true
      · rw [hz]; exact ⟨_, rfl⟩
      · have hz' : (x == y.1) = false := by simpa using hz
        rw [hz']; exact ⟨c, hc⟩
    · rw [if_neg hk]; exact ⟨c, hc⟩
theorem nV {env : Env} : ∀ {names : List (Str × NameKind)} {x : Str} {k : NameKind},
 (names.map fun (y : Str × NameKind) => if (y.2 == NameKind.free && env.scope.kind == .function && env.kindOf y.1 == some .cell) = true then (y.1, NameKind.cell) else (y.1, y.2)).lookup x = some k ->
 (names.lookup x = some k) \/ (names.lookup x = some .free /\ k = .cell)
 | [], x, k, h => by simp at h
 | y :: r, x, k, h => by
  rw [List.map_cons] at h
  by_cases hx : (x == y.1) = true
  · by_cases hc : (y.2 == NameKind.free && env.scope.kind == .function && env.kindOf y.1 == some .cell) = true
    · rw [if_pos hc, List.lookup_cons, hx] at h
      rw [List.lookup_cons, hx]
      have : y.2 = .free := by simp at hc; exact hc.1.1
      refine .inr ⟨by rw [this], ?_⟩
      cases h; rfl
    · rw [if_neg hc, List.lookup_cons, hx] at h
      rw [List.lookup_cons, hx]
      exact .inl h
  · have hx' : (x == y.1) = false := by simpa using hx
    have h' : (r.map fun (y : Str × NameKind) => if (y.2 == NameKind.free && env.scope.kind == .function && env.kindOf y.1 == some .cell) = true then (y.1, NameKind.cell) else (y.1, y.2)).lookup x = some k := by
     by_cases hc : (y.2 == NameKind.free && env.scope.kind == .function && env.kindOf y.1 == some .cell) = true
     · rw [if_pos hc, List.lookup_cons, hx'] at h; exact h
     · rw [if_neg hc, List.lookup_cons, hx'] at h; exact h
    rw [List.lookup_cons, hx']
    exact nV h'
theorem tW {env : Env} : ∀ {names : List (Str × NameKind)} {x : Str}, names.lookup x = some .free ->
 (names.map fun (y : Str × NameKind) => if (y.2 == NameKind.free && env.scope.kind == .function && env.kindOf y.1 == some .cell) = true then (y.1, NameKind.cell) else (y.1, y.2)).lookup x = some .cell \/
 (names.map fun (y : Str × NameKind) => if (y.2 == NameKind.free && env.scope.kind == .function && env.kindOf y.1 == some .cell) = true then (y.1, NameKind.cell) else (y.1, y.2)).lookup x = some .free
 | [], x, h => by simp at h
 | y :: r, x, h => by
  rw [List.map_cons]
  by_cases hx : (x == y.1) = true
  · rw [List.lookup_cons, hx] at h
    have hy : y.2 = .free := Option.some.inj h
    by_cases hc : (y.2 == NameKind.free && env.scope.kind == .function && env.kindOf y.1 == some .cell) = true
    · rw [if_pos hc, List.lookup_cons, hx]; exact .inl rfl
    · rw [if_neg hc, List.lookup_cons, hx]; exact .inr (by rw [hy])
  · have hx' : (x == y.1) = false := by simpa using hx
    rw [List.lookup_cons, hx'] at h
    have ih := tW (env := env) h
    by_cases hc : (y.2 == NameKind.free && env.scope.kind == .function && env.kindOf y.1 == some .cell) = true
    · rw [if_pos hc, List.lookup_cons, hx']; exact ih
    · rw [if_neg hc, List.lookup_cons, hx']; exact ih
end L2
end
section
set_option Elab.async false
set_option linter.all false
set_option maxRecDepth 100000
set_option maxHeartbeats 4000000
namespace L2
open PySem PySem.Spec PyProof.Rows
def yM (X : Cx) (ifs : List Expr) (t : TT) : Prop :=
 ∀ (pins : List (Addr × Obj)) (s : Shared) (σ : St) (H : Hp) (Q : Bool -> Hp -> Prop), Inv X pins σ H s -> t σ H Q ->
  wpAny (model X.prog X.w) X.A (forIn ifs true fun c r => if r = true then (do
   let ok <- isTrue c X.env (eval c X.env)
   pure (ForInStep.yield ok)) else pure (ForInStep.yield r)) (TP X pins σ Q) X.xe s
def aCp : TT := fun _ H Q => Q true H
theorem OS {X : Cx} : yM X [] aCp := fun _ _ _ H _ I h => wpAny_tests_nil ⟨H, I, h⟩
theorem MY {X : Cx} {c : Expr} {t : TT} (h : PT X c t) : yM X [c] t := fun pins s σ H Q I hq => wpAny_tests_one (h pins s σ H Q I hq)
section
variable {prog : Program} {w : World} {A : Around} {R : Result -> Shared -> Prop} {s : Shared}
theorem OX {elt target iter : Expr} {ifs : List Expr} {scope : Scope} {pos : Pos} {it acc : Value} {env : Env} (I : Nat -> Shared -> Prop)
 (turn : ∀ n s, I n s -> wpAny (model prog w) A (pyNext it) (fun r s1 => (r = none /\ R (.ok .next) s1) \/ ∃ v, r = some v /\
  wpAny (model prog w) A (letOwnedTupleGo target it v) (fun _ s2 => wpAny (model prog w) A (assign target env v) (fun _ s3 =>
   wpAny (model prog w) A (forIn ifs true fun c r => if r = true then (do
    let ok <- isTrue c env (eval c env)
    pure (ForInStep.yield ok)) else pure (ForInStep.yield r)) (fun ok s4 =>
     (ok = true /\ wpAny (model prog w) A (eval elt env) (fun x s5 => wpAny (model prog w) A (call (.builtin "list.append") [acc, x]) (fun _ s6 => ∃ m, m < n /\ I m s6) (fun _ _ => False) s5) (fun _ _ => False) s4) \/
     (ok = false /\ ∃ m, m < n /\ I m s4)) (fun _ _ => False) s3) (fun _ _ => False) s2) (fun _ _ => False) s1) (fun _ _ => False) s)
 (n : Nat) (h : I n s) : codeAny (model prog w) A (.compLoop (.ListComp elt [⟨target, iter, ifs, 0⟩] scope pos) 0 it acc env) R s := by
 refine codeAny_loop rfl I (fun n s hI => ?_) n h
 show wpAny _ A ((compTurn (.ListComp elt [⟨target, iter, ifs, 0⟩] scope pos) 0 it acc env).onRaise fun x => do
  noteFrame x env
  theTreesLotGoes x) _ _ s
 refine wpAny_noted ?_
 rw [compTurn_list]
 refine wpAny_bind (wpAny_standAt (wpAny_bind (wpAny_mono (turn n s hI) (fun r s1 h1 => ?_) fun _ _ f => f.elim)))
 rcases h1 with ⟨rfl, h1⟩ | ⟨v, rfl, h1⟩
 · exact wpAny_pure h1
 · refine wpAny_bind (wpAny_mono h1 (fun _ s2 h2 => ?_) fun _ _ f => f.elim)
   refine wpAny_bind (wpAny_mono h2 (fun _ s3 h3 => ?_) fun _ _ f => f.elim)
   refine wpAny_bind (wpAny_mono h3 (fun ok s4 h4 => ?_) fun _ _ f => f.elim)
   rcases h4 with ⟨rfl, h4⟩ | ⟨rfl, h4⟩
   · refine wpAny_bind (wpAny_bind (wpAny_mono h4 (fun x s5 h5 => ?_) fun _ _ f => f.elim))
     exact wpAny_bind (wpAny_mono h5 (fun _ s6 h6 => wpAny_pure (wpAny_pure ⟨rfl, h6⟩)) fun _ _ f => f.elim)
   · exact wpAny_pure ⟨rfl, h4⟩
end
def eF (X : Cx) (N' : List Str) (scope : Scope) (C : Addr) (s2 : Shared) (H2 : Hp) (fp : List Addr) (pn : List (Addr × Obj)) : Cx :=
 { X with N := N', s₀ := s2, H₀ := H2, env := compEnvC scope (eD X.env scope.names []) C X.env, outer := X.stack, stack := X.stack, ex := fp, fn := fun _ => false, pn := X.pn ++ pn, xe := fun _ _ => False }
def rK (cap : List (Option Nat)) (σ : St) : St := cap.map fun o => o.bind fun j => (σ[j]?).join
structure LcSc (X : Cx) (N' : List Str) (cap : List (Option Nat)) (scope : Scope) : Prop where
 nocell : ∀ y ∈ scope.names, y.2 ≠ .cell
 kind : scope.kind = .function
 names : ∀ y ∈ scope.names, y.2 = .local -> scope.names.lookup y.1 = some .local
 frees : ∀ y ∈ scope.names, y.2 = .free -> X.env.kindOf y.1 = some .cell \/ X.env.kindOf y.1 = some .free
 len : cap.length = N'.length
 cap : ∀ (i j : Nat), cap[i]? = some (some j) -> ∃ x, N'[i]? = some x /\ X.N[j]? = some x /\ scope.names.lookup x = some .free
section
variable {X : Cx} {N' : List Str} {cap : List (Option Nat)} {scope : Scope} {pins : List (Addr × Obj)} {σ : St} {H : Hp} {s : Shared}
theorem LcSc.cells (S : LcSc X N' cap scope) (ok : X.Ok) : ∀ y ∈ scope.names, y.2 = .free -> ∃ c, X.env.cells.lookup y.1 = some c := fun y hy hk => ok.has y.1 (S.frees y hy hk)
theorem LcSc.sub (S : LcSc X N' cap scope) (ok : X.Ok) : ∀ x c, (eD X.env scope.names []).lookup x = some c -> X.env.cells.lookup x = some c :=
 vV scope.names [] (S.cells ok) fun x c e => by simp at e
theorem LcSc.kinds (S : LcSc X N' cap scope) {C : Addr} {cl : List (Str × Addr)} {x : Str} (h : (compEnvC scope cl C X.env).kindOf x = some .cell \/ (compEnvC scope cl C X.env).kindOf x = some .free) : scope.names.lookup x = some .free := by
 rcases h with h | h
 · rcases nV (names := scope.names) h with q | ⟨q, _⟩
   · exact absurd rfl (S.nocell _ (PySem.mem_of_lookup q))
   · exact q
 · rcases nV (names := scope.names) h with q | ⟨q, _⟩
   · exact q
   · exact q
theorem Inv.stkAll (I : Inv X pins σ H s) {b : Addr} (h1 : b ≠ X.env.locals) (h2 : b ∉ X.fs) : b ∉ frs X.stack := fun hb => (List.mem_cons.mp (I.stkSub b hb)).elim h1 h2
theorem yN (S : LcSc X N' cap scope) (I : Inv X pins σ H s) {fp : List Addr} {h4 : Heap} {C : Addr} {tk : Nat} (hf : ∀ b ∈ fp, mS X pins H b) (hlt : ∀ b ∈ fp, b < s.heap.objs.size)
 (hC : s.heap.objs.size <= C) (hn : h4.Ns C fun _ => none) (hk : ∀ b o, s.heap.get? b = some o -> h4.get? b = some o) :
 Inv (eF X N' scope C s H fp pins) [] (rK cap σ) H { s with heap := h4, toks := tk } := by
 have cellLt : ∀ x c, X.env.cells.lookup x = some c -> c < s.heap.objs.size := fun x c e => by
  obtain ⟨v, q⟩ := I.cell x c e
  exact q.lt
 have fresh : H C = none := I.hok.fresh hC
 have ok : (eF X N' scope C s H fp pins).Ok := by
  refine ⟨I.ok.mod, S.kind, I.ok.glob, I.ok.blt, hC, fun x y c h1 h2 => ?_, fun x hx => ?_, fun x c hx _ => ?_, I.ok.hd, I.ok.frames, .inl rfl, fun b hb => ⟨?_, fun x c e => ?_⟩, I.bs, Nat.le_trans I.ok.bsz I.sz, fun b o e hb => ?_, fun b hb => ?_, I.stack, I.stkFree⟩
  · exact I.ok.inj x y c (S.sub I.ok x c h1) (S.sub I.ok y c h2)
  · exact pR scope.names [] x (.inl (PySem.mem_of_lookup (S.kinds hx)))
  · exact absurd hx (by show ¬ (false = true); decide)
  · exact Nat.ne_of_lt (Nat.lt_of_lt_of_le (hlt b hb) hC)
  · exact (hf b hb).2.2.2.2.1 x c (S.sub I.ok x c e)
  · rcases (hf b hb).2.2.2.1 with z | z
    · exact I.ok.noex b o e z
    · exact absurd (Nat.lt_of_lt_of_le (Heap.lt_size (I.ok.bs b o e).1) z) (Nat.lt_irrefl _)
  · exact I.stkAll (hf b hb).2.1 (hf b hb).2.2.1
 refine ⟨ok, rfl, I.bare, Un.kept hk, ⟨_, hn, fun i x v h1 h2 h3 => ?_⟩, fun x c e => ?_, fresh, fun x c e => I.freeC x c (S.sub I.ok x c e), fun p hp => ?_, I.hok.kept hk, ?_⟩
 · -- a name that is caught
   have h2' : (cap[i]?).map (fun o => o.bind fun j => (σ[j]?).join) = some (some v) := by
    have : (rK cap σ)[i]? = some (some v) := h2
    unfold rK at this
    rw [List.getElem?_map] at this
    exact this
   cases e : cap[i]? with
   | none => rw [e] at h2'; simp at h2'
   | some o =>
    cases o with
    | none => rw [e] at h2'; simp at h2'
    | some j =>
     rw [e] at h2'
     obtain ⟨x', a1, a2, a3⟩ := S.cap i j e
     have ex : x' = x := by
      have : N'[i]? = some x := h1
      rw [a1] at this
      exact Option.some.inj this
     subst ex
     have sv : σ[j]? = some (some v) := by
      have q : (σ[j]?).join = some v := Option.some.inj h2'
      cases f : σ[j]? with
      | none => rw [f] at q; simp at q
      | some o => rw [f] at q; cases o with
       | none => simp at q
       | some v' => simp at q; rw [q]
     have hv : X.env.kindOf x' = some .cell \/ X.env.kindOf x' = some .free := S.frees _ (PySem.mem_of_lookup a3) rfl
     obtain ⟨m, hm, hl⟩ := I.loc
     obtain ⟨u, r, l⟩ := hl j x' v a2 sv (hv.elim (fun z => .inr (.inl z)) fun z => .inr (.inr z))
     refine ⟨u, r, .inr ⟨?_, ?_⟩⟩
     · exact tW (env := X.env) (names := scope.names) a3
     · rcases l with ⟨hk', _⟩ | ⟨_, c, hc, o, ho, hd⟩
       · rcases hv with z | z <;> rw [z] at hk' <;> cases hk'
       · obtain ⟨c', hc'⟩ := pR (env := X.env) scope.names [] x' (.inl (PySem.mem_of_lookup a3))
         have := S.sub I.ok x' c' hc'
         rw [hc] at this
         cases this
         exact ⟨c, hc', o, hk c o ho, hd⟩
 · obtain ⟨v, o, ho, hd⟩ := I.cell x c (S.sub I.ok x c e)
   exact ⟨v, o, hk c o ho, hd⟩
 · have hp' : p ∈ X.pn ++ pins := by
    rcases List.mem_append.mp hp with z | z
    · exact z
    · exact absurd z (by simp)
   obtain ⟨e, n, ne, nf, d⟩ := I.pin p hp'
   exact ⟨hk _ _ e, n, Nat.ne_of_lt (Nat.lt_of_lt_of_le (Heap.lt_size e) hC), I.stkAll ne nf, d⟩
 · show (rK cap σ).length = N'.length
   unfold rK
   rw [List.length_map]
   exact S.len
end
def tLc (cap : List (Option Nat)) (wi : TI) (g : TG) (tc : TT) (te : TE) : TE := fun σ H Q => wi σ H fun J H1 => ∃ W : Nat -> Nat -> List V -> St -> Hp -> Prop, (∃ m, W 0 m [] (rK cap σ) H1) /\ ∀ i m acc σ' H', W i m acc σ' H' ->
 (J.stop i H' /\ ∀ p, H' p = none -> Q (.ref p) (upd H' p (.lst acc))) \/
 (J.go i H' /\ acc.length < sizeLine /\ ∃ N : List V -> St -> Hp -> Prop, (∀ acc' σ2 H2, N acc' σ2 H2 -> ∃ m', m' < m /\ W (i + 1) m' acc' σ2 H2) /\ ∀ x H2, J.yld i H' x H2 -> g x σ' H2 fun σ2 H3 => tc σ2 H3 fun b H4 => (b = true /\ te σ2 H4 fun v H5 => N (acc ++ [v]) σ2 H5) \/ (b = false /\ N acc σ2 H4))
section
variable {X : Cx} {N' : List Str} {cap : List (Option Nat)} {scope : Scope}
theorem OE {elt tg iter : Expr} {ifs : List Expr} {pos : Pos} {wi : TI} {g : TG} {tc : TT} {te : TE} (hc : X.calm = true) (S : LcSc X N' cap scope) (hi : PI X tg iter wi)
 (hg : ∀ C s H fp pn, PG (eF X N' scope C s H fp pn) tg g) (hif : ∀ C s H fp pn, yM (eF X N' scope C s H fp pn) ifs tc) (he : ∀ C s H fp pn, PE (eF X N' scope C s H fp pn) elt te)
 (hs : ∀ x, foldedSetIterable iter X.env x = pure x) {pins : List (Addr × Obj)} {s : Shared} {σ : St} {H : Hp} {Q : VK} (I : Inv X pins σ H s) (h : tLc cap wi g tc te σ H Q)
 {use : Option (Value -> Sem Unit)} {QQ : Value -> Shared -> Prop}
 (post : ∀ (D C : Addr) (H' : Hp) (acc : List V) (s' : Shared), D ≠ C -> (∃ m, s'.heap.Ns C m) -> (∀ h', Heap.SameBut C s'.heap h' -> Inv X pins σ (upd H' D (.lst acc)) { s' with heap := h' }) -> mS X pins (upd H' D (.lst acc)) C -> Q (.ref D) (upd H' D (.lst acc)) -> compPost (model X.prog X.w) X.A X.xe use QQ (.ref D) C (.ok .next) s') :
 wpAny (model X.prog X.w) X.A (comprehension (.ListComp elt [⟨tg, iter, ifs, 0⟩] scope pos) scope X.env (firstIterPos [⟨tg, iter, ifs, 0⟩] pos) (newList []) false (firstIter [⟨tg, iter, ifs, 0⟩] X.env) use) QQ X.xe s := by
 refine wpAny_comprehension_free (e := .ListComp elt [⟨tg, iter, ifs, 0⟩] scope pos) (g := ⟨tg, iter, ifs, 0⟩) (gs := []) rfl hs (sE (S.cells I.ok)) S.kind S.names ?_
 refine thn (hi pins s σ H _ I h) fun v s1 h1 => thn h1 fun itv s2 h2 => ?_
 obtain ⟨it, fp, tn, J, H2, e, I2, T, st2, f2, W, ⟨m0, w0⟩, turn⟩ := h2
 subst e
 have fplt : ∀ b ∈ fp, b < s2.heap.objs.size := fun b hb => by
  obtain ⟨o, e, _⟩ := T.obj _ _ st2 b hb
  exact Heap.lt_size e
 refine wpAny_newObj_type (wpAny_newFunctionEnv S.nocell (fun y hy => by simp at hy) (fun h1' hns hsb => ?_) S.kind)
 dsimp only at hns hsb ⊢
 generalize hP : s2.heap.push { cls := .type "list", dict := none, data := .seq ([] : List Value).toArray } = P2 at hns hsb ⊢
 have hsz : P2.objs.size = s2.heap.objs.size + 1 := by rw [<- hP, Heap.size_push]
 have hDC : s2.heap.objs.size ≠ P2.objs.size := by rw [hsz]; exact Nat.ne_of_lt (Nat.lt_succ_self _)
 have hC : s2.heap.objs.size <= P2.objs.size := by rw [hsz]; exact Nat.le_succ _
 have keepP : ∀ b o, P2.get? b = some o -> b ≠ P2.objs.size -> h1'.get? b = some o := fun b o e hb => hsb.extBut b o hb (Heap.get?_push_of_some _ e)
 have old : ∀ b o, s2.heap.get? b = some o -> h1'.get? b = some o := fun b o e => keepP b o (by rw [<- hP]; exact Heap.get?_push_of_some _ e) (Nat.ne_of_lt (Nat.lt_of_lt_of_le (Heap.lt_size e) hC))
 have hD0 : h1'.get? s2.heap.objs.size = some { cls := .type "list", data := .seq #[] 0 } := keepP _ _ (by rw [<- hP]; exact Heap.get?_push_size _ rfl) hDC
 have I4 : Inv (eF X N' scope P2.objs.size s2 H2 fp pins) [] (rK cap σ) H2 { s2 with heap := h1', toks := s2.toks + ([] : List (Str × Value)).length } :=
  yN S I2 f2 fplt hC (by simpa using hns) old
 have loop : ∀ s4 : Shared, s4 = { s2 with heap := h1', toks := s2.toks + ([] : List (Str × Value)).length } ->
  codeAny (model X.prog X.w) X.A (.compLoop (.ListComp elt [⟨tg, iter, ifs, 0⟩] scope pos) 0 (.ref it) (.ref s2.heap.objs.size) (compEnvC scope (eD X.env scope.names []) P2.objs.size X.env)) (compPost (model X.prog X.w) X.A X.xe use QQ (.ref s2.heap.objs.size) P2.objs.size) s4 := by
  rintro s4 rfl
  have hfrD : s2.heap.objs.size ∉ frs X.stack := fun hb => by
   obtain ⟨_, o, ho, _⟩ := I2.stack.mem hb
   exact absurd (Heap.lt_size ho) (Nat.lt_irrefl _)
  have cne : ∀ x c, (eD X.env scope.names []).lookup x = some c -> c < s2.heap.objs.size := fun x c e => by
   obtain ⟨v, q⟩ := I2.cell x c (S.sub I2.ok x c e)
   exact q.lt
  have stat : ∀ {Hx : Hp} {ob : Obj}, (∀ b ∈ fp, Hx b = none) -> ∀ b ∈ fp, mS (eF X N' scope P2.objs.size s2 H2 fp pins) [(s2.heap.objs.size, ob)] Hx b := fun {Hx ob} hn b hb => by
   refine ⟨hn b hb, Nat.ne_of_lt (Nat.lt_of_lt_of_le (fplt b hb) hC), I2.stkAll (f2 b hb).2.1 (f2 b hb).2.2.1, .inl hb, fun x c e => (f2 b hb).2.2.2.2.1 x c (S.sub I2.ok x c e), fun p hp => ?_⟩
   rcases List.mem_append.mp hp with z | z
   · exact (f2 b hb).2.2.2.2.2 p z
   · rw [List.mem_singleton.mp z]
     exact Nat.ne_of_gt (fplt b hb)
  refine OX (fun n s' => ∃ (i : Nat) (σ' : St) (H' : Hp) (acc : List V) (its : List Value) (nn : Nat), Inv (eF X N' scope P2.objs.size s2 H2 fp pins) [] σ' H' s' /\ tn i s'.heap /\ (∀ b ∈ fp, H' b = none) /\ H' s2.heap.objs.size = none /\
   s'.heap.get? s2.heap.objs.size = some { cls := .type "list", data := .seq its.toArray nn } /\ Vals acc its /\ acc.length <= sizeLine /\ W i n acc σ' H') ?_ m0
   ⟨0, rK cap σ, H2, [], [], 0, I4, T.keep _ _ _ st2 fun b _ o e => old b o e, fun b hb => (f2 b hb).1, I2.hok.fresh (Nat.le_refl _), hD0, .nil, Nat.zero_le _, w0⟩
  rintro n s5 ⟨i, σ', H', acc, its, nn, I5, t5, fr5, d5, g5, va, la, w5⟩
  have I5p : Inv (eF X N' scope P2.objs.size s2 H2 fp pins) [(s2.heap.objs.size, { cls := .type "list", data := .seq its.toArray nn })] σ' H' s5 := I5.pins_of fun p hp => by
   rw [List.mem_singleton.mp hp]
   exact ⟨g5, d5, hDC, hfrD, fun v z => by cases z⟩
  rcases turn i n acc σ' H' w5 with ⟨stop, q⟩ | ⟨go, lt, N, hN, step⟩
  · refine thn (T.done (eF X N' scope P2.objs.size s2 H2 fp pins) rfl rfl rfl hc i _ s5 σ' H' _ I5p (stat fr5) t5 stop) fun r s6 ⟨hr, I6⟩ => .inl ⟨hr, ?_⟩
    have d6 := (I6.pin (s2.heap.objs.size, { cls := .type "list", data := .seq its.toArray nn }) (by simp)).1
    have nC : H' P2.objs.size = none := I6.free
    refine post _ _ H' acc s6 hDC (let ⟨m, hn, _⟩ := I6.loc; ⟨m, hn⟩) (fun h' hs' => ?_) (I2.fpOk hC (by rw [aI hDC.symm]; exact nC)) (q _ d5)
    have up : ∀ b o, b ≠ P2.objs.size -> s6.heap.get? b = some o -> h'.get? b = some o := fun b o hb e => hs'.extBut b o hb e
    have ltC : ∀ b o, s2.heap.get? b = some o -> b ≠ P2.objs.size /\ b ≠ s2.heap.objs.size := fun b o e => ⟨Nat.ne_of_lt (Nat.lt_of_lt_of_le (Heap.lt_size e) hC), Nat.ne_of_lt (Heap.lt_size e)⟩
    have u6 : Un (frs X.stack) fp H2 H' s2.heap s6.heap := I6.base
    have u7 : Un (frs X.stack) fp H2 (upd H' s2.heap.objs.size (.lst acc)) s2.heap h' := by
     refine ⟨fun b o e n hb hx => up b o (ltC b o e).1 (u6.keep b o e n hb hx), fun b o e n hb hx => ?_, fun b o e n hx => ?_, fun b o e hx => ?_, fun b xs e => ?_, fun b o u e => ?_, fun b ps e => ?_⟩
     · obtain ⟨sl, q⟩ := u6.slot b o e n hb hx
       exact ⟨sl, up b _ (ltC b o e).1 q⟩
     · rw [aI (ltC b o e).2]
       exact u6.free b o e n hx
     · obtain ⟨o', q⟩ := u6.there b o e hx
       exact ⟨o', up b o' (ltC b o e).1 q⟩
     · have z := u6.tups b xs e
       rw [aI (aN z d5)]
       exact z
     · have z := u6.frzs b o u e
       rw [aI (aN z d5)]
       exact z
     · obtain ⟨more, z⟩ := u6.tbls b ps e
       exact ⟨more, by rw [aI (aN z d5)]; exact z⟩
    have ok7 : HOk X.prog X.w (upd H' s2.heap.objs.size (.lst acc)) h' := fun b u e => by
     by_cases hb : b = s2.heap.objs.size
     · subst hb
       rw [aT] at e
       cases e
       exact ⟨la, its, nn, va, up _ _ hDC d6⟩
     · rw [aI hb] at e
       refine (I6.hok b u e).stay (fun c v hc' z => up c v ?_ z) (fun c z => by rw [aI (aN z d5)]; exact z) fun c xs z => by rw [aI (aN z d5)]; exact z
       rcases hc' with rfl | z
       · exact aN e nC
       · exact aN z nC
    have os6 : s6.os = s2.os := I6.os
    have ba6 := I6.bare
    obtain ⟨hh, gg, dd, tt, oo⟩ := s6
    subst os6
    have z7 := I2.call (s := s2) (h' := h') (g' := gg) (d' := dd) (t' := tt) (ch := fp) u7 ok7 ba6 fun b hb => ⟨(f2 b hb).2.2.2.1, (f2 b hb).2.1, (f2 b hb).2.2.2.2.1, (f2 b hb).2.2.2.2.2⟩
    exact z7
  · refine thn (T.item (eF X N' scope P2.objs.size s2 H2 fp pins) rfl rfl rfl hc i _ s5 σ' H' _ I5p (stat fr5) t5 go) fun r s6 ⟨u, hr, h6⟩ => .inr ⟨u, hr, ?_⟩
    refine thn h6 fun _ s7 ⟨x, H7, I7, r7, y7, t7, fr7⟩ => ?_
    have I7' := I7.pinned (stat fr7) (T.obj _ _ t7)
    have back : ∀ {σx : St} {Hx : Hp} {sx : Shared}, Inv (eF X N' scope P2.objs.size s2 H2 fp pins) ([(s2.heap.objs.size, { cls := .type "list", data := .seq its.toArray nn })] ++ pV fp s7.heap) σx Hx sx ->
     (∀ b ∈ fp, ∀ o, s7.heap.get? b = some o -> sx.heap.get? b = some o) /\ (∀ b ∈ fp, Hx b = none) /\ sx.heap.get? s2.heap.objs.size = some { cls := .type "list", data := .seq its.toArray nn } /\ Hx s2.heap.objs.size = none := fun {σx Hx sx} Ix => by
     refine ⟨fun b hb o e => (Ix.pin (b, o) (List.mem_append_right _ (List.mem_append_right _ (fX hb e)))).1, fun b hb => ?_, ?_, ?_⟩
     · obtain ⟨o, e, _⟩ := T.obj _ _ t7 b hb
       exact (Ix.pin (b, o) (List.mem_append_right _ (List.mem_append_right _ (fX hb e)))).2.1
     · exact (Ix.pin (s2.heap.objs.size, _) (List.mem_append_right _ (List.mem_append_left _ (List.mem_singleton.mpr rfl)))).1
     · exact (Ix.pin (s2.heap.objs.size, { cls := .type "list", data := .seq its.toArray nn }) (List.mem_append_right _ (List.mem_append_left _ (List.mem_singleton.mpr rfl)))).2.1
    refine thn (hg _ _ _ _ _ _ s7 σ' H7 x u _ I7' r7 (step x H7 y7)) fun _ s8 ⟨σ8, H8, I8, q8⟩ => ?_
    refine thn (hif _ _ _ _ _ _ s8 σ8 H8 _ I8 q8) fun b s9 ⟨H9, I9, q9⟩ => ?_
    rcases q9 with ⟨rfl, q9⟩ | ⟨rfl, n9⟩
    · refine .inl ⟨rfl, thn (he _ _ _ _ _ _ s9 σ8 H9 _ I9 q9) fun uv s10 ⟨v, H10, I10, rv, n10⟩ => ?_⟩
      obtain ⟨m', hm, w10⟩ := hN _ _ _ n10
      obtain ⟨b1, b2, b3, b4⟩ := back I10
      refine wpAny_list_append_plain ⟨nn, b3⟩ (fun h' hp hs' => ?_) (by rw [List.size_toArray, <- va.length]; exact la)
      obtain ⟨n2, e2⟩ := hp
      have up : ∀ b o, b ≠ s2.heap.objs.size -> s10.heap.get? b = some o -> h'.get? b = some o := fun b o hb e => hs'.extBut b o hb e
      have I10' : Inv (eF X N' scope P2.objs.size s2 H2 fp pins) [] σ8 H10 s10 := I10.pins_of fun p hp => absurd hp (by simp)
      refine ⟨m', hm, i + 1, σ8, H10, acc ++ [v], its ++ [uv], n2, I10'.turned (t' := s10.toks) up b4 hDC (.inr (Nat.le_refl _)) (fun x c e => Nat.ne_of_lt (cne x c e)) (fun p hp => ?_), T.keep _ _ _ t7 fun b hb o e => up b o (Nat.ne_of_lt (fplt b hb)) (b1 b hb o e), b2, b4, ?_, va.append (.cons rv .nil), ?_, w10⟩
      · have hp' : p ∈ X.pn ++ pins := by
         rcases List.mem_append.mp hp with z | z
         · exact z
         · exact absurd z (by simp)
        exact Nat.ne_of_lt (Heap.lt_size (I2.pin p hp').1)
      · rw [e2]
        simp
      · rw [List.length_append, List.length_singleton]
        exact lt
    · obtain ⟨m', hm, w9⟩ := hN _ _ _ n9
      obtain ⟨b1, b2, b3, b4⟩ := back I9
      exact .inr ⟨rfl, m', hm, i + 1, σ8, H9, acc, its, nn, I9.pins_of fun p hp => absurd hp (by simp), T.keep _ _ _ t7 b1, b2, b4, b3, va, la, w9⟩
 exact codeAny_compStart_list (loop _ rfl) (T.self _ 0 _ _ _ (T.keep _ _ _ st2 fun b _ o e => old b o e) (loop _ rfl))
theorem aBo {elt tg iter : Expr} {ifs : List Expr} {pos : Pos} {wi : TI} {g : TG} {tc : TT} {te : TE} (hc : X.calm = true) (S : LcSc X N' cap scope) (hi : PI X tg iter wi)
 (hg : ∀ C s H fp pn, PG (eF X N' scope C s H fp pn) tg g) (hif : ∀ C s H fp pn, yM (eF X N' scope C s H fp pn) ifs tc) (he : ∀ C s H fp pn, PE (eF X N' scope C s H fp pn) elt te)
 (hs : ∀ x, foldedSetIterable iter X.env x = pure x := by intro _; rfl) : PE X (.ListComp elt [⟨tg, iter, ifs, 0⟩] scope pos) (tLc cap wi g tc te) := by
 intro pins s σ H Q I h
 rw [eval_ListComp]
 refine OE (use := none) (Q := Q) hc S hi hg hif he hs I h fun D C H' acc s' hDC ⟨m, hn⟩ hI _ hq => ⟨m, hn, fun h' hs' => ?_⟩
 exact ⟨.ref D, _, hI h' hs', rfl, hq⟩
theorem JJ {i : Nat} {x : Str} {elt tg iter : Expr} {ifs : List Expr} {pos pos' pos'' : Pos} {wi : TI} {g : TG} {tc : TT} {te : TE} (hN : X.N.Nodup) (hix : X.N[i]? = some x) (hc : X.calm = true) (S : LcSc X N' cap scope) (hi : PI X tg iter wi)
 (hg : ∀ C s H fp pn, PG (eF X N' scope C s H fp pn) tg g) (hif : ∀ C s H fp pn, yM (eF X N' scope C s H fp pn) ifs tc) (he : ∀ C s H fp pn, PE (eF X N' scope C s H fp pn) elt te)
 (hsw : swapsWith (.ListComp elt [⟨tg, iter, ifs, 0⟩] scope pos) (some (.Name x pos')) pos''.line X.env = pure true := by rfl) (hx : X.env.scope.names.lookup x = some .local := by rfl)
 (hs : ∀ x, foldedSetIterable iter X.env x = pure x := by intro _; rfl) : PS X (.Assign [.Name x pos'] (.ListComp elt [⟨tg, iter, ifs, 0⟩] scope pos) pos'') (NS (tLc cap wi g tc te) (zD i)) := by
 intro pins s σ H D I h
 rw [exec_Assign_Name_used _ _ _ _ hsw]
 refine wpAny_bind (wpAny_standAt (wpAny_bind ?_))
 show wpAny _ _ (comprehension (.ListComp elt [⟨tg, iter, ifs, 0⟩] scope pos) scope X.env _ (newList []) false (firstIter [⟨tg, iter, ifs, 0⟩] X.env) (some (assign (.Name x pos') X.env)) >>= fun _ => pure ()) _ _ s
 refine wpAny_bind (thn (OE (use := some (assign (.Name x pos') X.env)) (QQ := fun _ s' => ∃ σ' H', Inv X pins σ' H' s' /\ D.nx σ' H') (Q := fun v H1 => zD i v σ H1 D.nx) hc S hi hg hif he hs I h fun E C H' acc s' hDC ⟨m, hn⟩ hI fC hq => ?_) fun _ s' hz => wpAny_pure (wpAny_pure hz))
 have I1 : Inv X pins σ (upd H' E (.lst acc)) s' := hI s'.heap (Heap.SameBut.refl ..)
 have I1 : Inv X pins σ (upd H' E (.lst acc)) s' := I1
 refine wpAny_assign_Name (vS (M := model X.prog X.w) (A := X.A) (E := X.xe) I1 hN hix (.inl hx) (v := .ref E) (u := .ref E) rfl (fun s2 I2 hsb => ?_) (.inr hx))
 obtain ⟨a, hs2, ha⟩ := hsb
 have hne : C ≠ a := by
  rcases ha with z | z
  · rw [z]; exact fC.2.1
  · exact fun w => fC.2.2.2.2.1 x a z w.symm
 refine ⟨m, hn.extBut hs2.extBut hne, fun h' hs' => ?_⟩
 exact ⟨_, _, I2.turned (t' := s2.toks) (fun b o hb e => hs'.extBut b o hb e) fC.1 fC.2.1 fC.2.2.2.1 fC.2.2.2.2.1 fC.2.2.2.2.2, hq⟩
end
end L2
end
section
set_option Elab.async false
set_option linter.all false
set_option maxRecDepth 100000
set_option maxHeartbeats 4000000
namespace L2
open PySem PySem.Spec PyProof.Rows
def IY : Key -> PyData
 | .inl i => .int i
 | .inr x => .str x
mutual
def Rep (K : PySem.W.Frag) (H : Hp) : PyData -> V -> Prop
 | .none, v => v = .non
 | .bool b, v => v = .bl b
 | .int i, v => v = .int i
 | .str x, v => v = .str x
 | .list xs, v => ∃ a vs, v = .ref a /\ SqL K H a vs /\ RepAll K H xs vs
 | .tuple xs, v => ∃ a vs, v = .ref a /\ SqT K H a vs /\ RepAll K H xs vs
 | .dict kvs, v => ∃ a ks, v = .ref a /\ H a = some (.dK ks) /\ RepKV K H kvs ks
def RepAll (K : PySem.W.Frag) (H : Hp) : List PyData -> List V -> Prop
 | [], vs => vs = []
 | d :: ds, vs => ∃ v r, vs = v :: r /\ Rep K H d v /\ RepAll K H ds r
def RepKV (K : PySem.W.Frag) (H : Hp) : List (PyData × PyData) -> List (Key × V) -> Prop
 | [], ks => ks = []
 | (k, d) :: kvs, ks => ∃ k' v r, ks = (k', v) :: r /\ k = IY k' /\ Rep K H d v /\ RepKV K H kvs r
end
theorem Same.seqT {K : PySem.W.Frag} {H H' : Hp} {a : Addr} {xs : List V} (e : Same H H') (h : SqT K H a xs) : SqT K H' a xs := by
 rcases h with h | h
 · refine .inl ?_
   rcases h with h | ⟨o, h⟩
   · exact .inl (e _ _ h)
   · exact .inr ⟨o, e _ _ h⟩
 · exact .inr h
mutual
theorem Rep.same {K : PySem.W.Frag} {H H' : Hp} (e : Same H H') : ∀ (d : PyData) (v : V), Rep K H d v -> Rep K H' d v
 | .none, v, h => h
 | .bool b, v, h => h
 | .int i, v, h => h
 | .str x, v, h => h
 | .list xs, v, h => by
  obtain ⟨a, vs, h1, h2, h3⟩ := h
  exact ⟨a, vs, h1, e.seq h2, RepAll.same e xs vs h3⟩
 | .tuple xs, v, h => by
  obtain ⟨a, vs, h1, h2, h3⟩ := h
  exact ⟨a, vs, h1, e.seqT h2, RepAll.same e xs vs h3⟩
 | .dict kvs, v, h => by
  obtain ⟨a, ks, h1, h2, h3⟩ := h
  exact ⟨a, ks, h1, e _ _ h2, RepKV.same e kvs ks h3⟩
theorem RepAll.same {K : PySem.W.Frag} {H H' : Hp} (e : Same H H') : ∀ (ds : List PyData) (vs : List V), RepAll K H ds vs -> RepAll K H' ds vs
 | [], vs, h => h
 | d :: ds, vs, h => by
  obtain ⟨v, r, h1, h2, h3⟩ := h
  exact ⟨v, r, h1, Rep.same e d v h2, RepAll.same e ds r h3⟩
theorem RepKV.same {K : PySem.W.Frag} {H H' : Hp} (e : Same H H') : ∀ (kvs : List (PyData × PyData)) (ks : List (Key × V)), RepKV K H kvs ks -> RepKV K H' kvs ks
 | [], ks, h => h
 | (k, d) :: kvs, ks, h => by
  obtain ⟨k', v, r, h1, h2, h3, h4⟩ := h
  exact ⟨k', v, r, h1, h2, Rep.same e d v h3, RepKV.same e kvs r h4⟩
end
theorem RepAll.length {K : PySem.W.Frag} {H : Hp} : ∀ {ds : List PyData} {vs : List V}, RepAll K H ds vs -> ds.length = vs.length
 | [], vs, h => by rw [show vs = [] from h]; rfl
 | d :: ds, vs, h => by
  obtain ⟨v, r, h1, _, h3⟩ := h
  rw [h1, List.length_cons, List.length_cons, RepAll.length h3]
theorem RepAll.get {K : PySem.W.Frag} {H : Hp} : ∀ {ds : List PyData} {vs : List V} {i : Nat} {v : V}, RepAll K H ds vs -> vs[i]? = some v -> ∃ d, ds[i]? = some d /\ Rep K H d v
 | [], vs, i, v, h, e => by rw [show vs = [] from h] at e; simp at e
 | d :: ds, vs, 0, v, h, e => by
  obtain ⟨w, r, h1, h2, h3⟩ := h
  rw [h1] at e
  simp at e
  subst e
  exact ⟨d, rfl, h2⟩
 | d :: ds, vs, i + 1, v, h, e => by
  obtain ⟨w, r, h1, h2, h3⟩ := h
  rw [h1] at e
  exact RepAll.get (i := i) h3 (by simpa using e)
theorem RepAll.app {K : PySem.W.Frag} {H : Hp} : ∀ {ds es : List PyData} {vs ws : List V}, RepAll K H ds vs -> RepAll K H es ws -> RepAll K H (ds ++ es) (vs ++ ws)
 | [], es, vs, ws, h, k => by rw [show vs = [] from h]; exact k
 | d :: ds, es, vs, ws, h, k => by
  obtain ⟨v, r, h1, h2, h3⟩ := h
  exact ⟨v, r ++ ws, by rw [h1]; rfl, h2, RepAll.app h3 k⟩
section
variable {X : Cx} {pins : List (Addr × Obj)} {σ : St} {H : Hp} {s : Shared}
theorem Inv.sysN (I : Inv X pins σ H s) : H sysModules = none := by
 obtain ⟨o, es, ep, h, _⟩ := I.mod.sysm
 exact (I.bs _ _ h).2
theorem Inv.sysL (I : Inv X pins σ H s) {a : Addr} {xs : List V} (h : SqL X.K H a xs) : sysModules ≠ a := by
 intro e
 subst e
 have hn := I.sysN
 rcases h with (h | ⟨o, h⟩) | ⟨o, its, n, hk, _, _, hd, _⟩
 · rw [hn] at h; cases h
 · rw [hn] at h; cases h
 · obtain ⟨o', es, ep, h', hd'⟩ := I.mod.sysm
   have := I.mod.kin _ _ hk
   rw [h'] at this
   cases this
   rw [hd] at hd'
   cases hd'
mutual
theorem Rep.reads' (I : Inv X pins σ H s) : ∀ (d : PyData) (v : V) (u : Value), Rep X.K H d v -> RelV v u -> ∃ as, Reads s.heap u d as /\ sysModules ∉ as
 | .none, v, u, r, q => by
  rw [show v = .non from r] at q
  rw [show u = Value.none from q]
  exact ⟨_, .none, by simp⟩
 | .bool b, v, u, r, q => by
  rw [show v = .bl b from r] at q
  rw [show u = Value.bool b from q]
  exact ⟨_, .bool b, by simp⟩
 | .int i, v, u, r, q => by
  rw [show v = .int i from r] at q
  obtain ⟨t, rfl⟩ := (show ∃ t, u = Value.int i t from q)
  exact ⟨_, .int i t, by simp⟩
 | .str x, v, u, r, q => by
  rw [show v = .str x from r] at q
  obtain ⟨t, rfl⟩ := (show ∃ t, u = Value.str x t from q)
  exact ⟨_, .str x t, by simp⟩
 | .list xs, v, u, r, q => by
  obtain ⟨a, vs, rfl, h2, h3⟩ := r
  rw [show u = Value.ref a from q]
  obtain ⟨its, hv, ⟨o, n, hg, hc, _, hd⟩, _⟩ := I.list h2
  obtain ⟨as, ha, hs⟩ := RepAll.reads' I xs vs its h3 hv
  exact ⟨_, .list hg hc hd (by simpa using ha), fun z => (List.mem_cons.mp z).elim (I.sysL h2) hs⟩
 | .tuple xs, v, u, r, q => by
  obtain ⟨a, vs, rfl, h2, h3⟩ := r
  rw [show u = Value.ref a from q]
  obtain ⟨its, hv, ⟨o, hg, hc, n, hd⟩, _⟩ := I.tuple h2
  obtain ⟨as, ha, hs⟩ := RepAll.reads' I xs vs its h3 hv
  exact ⟨_, .tuple hg hc hd (by simpa using ha), hs⟩
 | .dict kvs, v, u, r, q => by
  obtain ⟨a, ks, rfl, h2, h3⟩ := r
  rw [show u = Value.ref a from q]
  obtain ⟨_, hS, vs, hkv, o, es, ep, hg, hex, hd, _, hp, _⟩ := (show ObjOk X.prog X.w H s.heap a (.dK ks) from I.hok a _ h2)
  obtain ⟨as, bs, h4, h5, n1, n2⟩ := RepKV.reads' I kvs ks vs es.toList h3 hkv hp
  refine ⟨_, .dict hg hex.1 hd h4 h5, fun z => ?_⟩
  rcases List.mem_append.mp z with z | z
  · rcases List.mem_cons.mp z with z | z
    · rw [z] at hS; simp at hS
    · exact n1 z
  · exact n2 z
theorem RepAll.reads' (I : Inv X pins σ H s) : ∀ (ds : List PyData) (vs : List V) (us : List Value), RepAll X.K H ds vs -> Vals vs us -> ∃ as, ReadsAll s.heap us ds as /\ sysModules ∉ as
 | [], vs, us, r, q => by
  rw [show vs = [] from r] at q
  cases q
  exact ⟨_, .nil, by simp⟩
 | d :: ds, vs, us, r, q => by
  obtain ⟨v, t, rfl, h2, h3⟩ := r
  cases q with
  | cons q1 q2 =>
   obtain ⟨as, ha, n1⟩ := Rep.reads' I d v _ h2 q1
   obtain ⟨bs, hb, n2⟩ := RepAll.reads' I ds t _ h3 q2
   exact ⟨_, .cons ha hb, fun z => (List.mem_append.mp z).elim n1 n2⟩
theorem RepKV.reads' (I : Inv X pins σ H s) : ∀ (kvs : List (PyData × PyData)) (ks : List (Key × V)) (vs : List (Key × Value)) (es : List DictEntry), RepKV X.K H kvs ks -> KV ks vs -> Pairs (cV X.prog X.w) es vs ->
 ∃ as bs, ReadsAll s.heap (es.map (·.key)) (kvs.map (·.1)) as /\ ReadsAll s.heap (es.map (·.val)) (kvs.map (·.2)) bs /\ sysModules ∉ as /\ sysModules ∉ bs
 | [], ks, vs, es, r, q, p => by
  rw [show ks = [] from r] at q
  cases q
  cases p
  exact ⟨_, _, .nil, .nil, by simp, by simp⟩
 | (k, d) :: kvs, ks, vs, es, r, q, p => by
  obtain ⟨k', v, t, rfl, h1, h2, h3⟩ := r
  cases q with
  | @cons _ kv _ vs' q1 q2 =>
   cases p with
   | @cons e _ es' _ p1 p2 p3 =>
    obtain ⟨as, bs, ha, hb, n1, n2⟩ := RepKV.reads' I kvs t _ _ h3 q2 p3
    obtain ⟨cs, hc, n3⟩ := Rep.reads' I d v _ h2 q1.2
    have hkey : Reads s.heap e.key k [] := by
     rw [h1]
     have p1' : uF kv.1 e.key = true := p1
     rw [<- show k' = kv.1 from q1.1] at p1'
     rcases cI p1' with ⟨i, t', rfl, he⟩ | ⟨x, t', rfl, he⟩
     · rw [he]; exact .int i t'
     · rw [he]; exact .str x t'
    refine ⟨_, _, .cons hkey ha, .cons (show Reads s.heap e.val d cs by rw [p2]; exact hc) hb, by simpa using n1, fun z => (List.mem_append.mp z).elim n3 n2⟩
end
theorem Rep.reads (I : Inv X pins σ H s) (d : PyData) (v : V) (u : Value) (r : Rep X.K H d v) (q : RelV v u) : ∃ as, Reads s.heap u d as := let ⟨as, h, _⟩ := Rep.reads' I d v u r q; ⟨as, h⟩
theorem RepAll.reads (I : Inv X pins σ H s) (ds : List PyData) (vs : List V) (us : List Value) (r : RepAll X.K H ds vs) (q : Vals vs us) : ∃ as, ReadsAll s.heap us ds as := let ⟨as, h, _⟩ := RepAll.reads' I ds vs us r q; ⟨as, h⟩
end
section
variable {X : Cx}
def NU (K : PySem.W.Frag) (neg : Bool) : R2 := fun x y H Q => ∃ dx dy, Rep K H dx x /\ Rep K H dy y /\ SeqAt.shaped dx = true /\ SeqAt.shaped dy = true /\ Q (.bl (if neg then !PyData.eqv dx dy else PyData.eqv dx dy)) H
theorem ZL (hu : X.A.units + 64 < cLine) : OpR X (compareOp .Eq) (NU X.K false) := by
 intro pins s σ H x y v u Q I rx ry h
 obtain ⟨dx, dy, hx, hy, sx, sy, q⟩ := h
 obtain ⟨as, ha⟩ := Rep.reads I dx x v hx rx
 obtain ⟨bs, hb⟩ := Rep.reads I dy y u hy ry
 exact eq_dataH ha hb sx sy hu ⟨.bl _, H, I, rfl, q⟩
theorem aAr (hu : X.A.units + 64 < cLine) : OpR X (compareOp .NotEq) (NU X.K true) := by
 intro pins s σ H x y v u Q I rx ry h
 obtain ⟨dx, dy, hx, hy, sx, sy, q⟩ := h
 obtain ⟨as, ha⟩ := Rep.reads I dx x v hx rx
 obtain ⟨bs, hb⟩ := Rep.reads I dy y u hy ry
 exact ne_dataH ha hb sx sy hu ⟨.bl _, H, I, rfl, q⟩
open Classical in
noncomputable def uP (h : Heap) (dv : PyData) (u : Value) : Bool := if ∃ d as, Reads h u d as /\ PyData.eqv d dv = true then true else false
theorem UE {h : Heap} {dv d : PyData} {u : Value} {as : List Addr} (r : Reads h u d as) (hc : d.canLay0 = true) : uP h dv u = PyData.eqv d dv := by
 unfold uP
 by_cases e : PyData.eqv d dv = true
 · rw [if_pos ⟨d, as, r, e⟩, e]
 · rw [if_neg, Bool.eq_false_iff.mpr e]
   rintro ⟨d', as', r', e'⟩
   have := SeqAt.Reads.unique d d' u as as' hc r r'
   subst this
   exact e e'
theorem sD {A : Around} {s : Shared} {v : Value} {dv : PyData} {av : List Addr} (hv : Reads s.heap v dv av) (sv : SeqAt.shaped dv = true) (hu : A.units + 64 < cLine) :
 ∀ (us : List Value) (ds : List PyData) (as : List Addr), ReadsAll s.heap us ds as -> ds.all SeqAt.shaped = true -> (∀ y ∈ us, SeqAt.EqAt A s y v (uP s.heap dv y)) /\ us.any (uP s.heap dv) = ds.any fun d => PyData.eqv d dv
 | [], ds, as, r, _ => by
  cases r
  exact ⟨fun y hy => absurd hy (by simp), rfl⟩
 | y :: us, ds, as, r, hs => by
  cases r with
  | @cons _ _ d ds' as1 bs1 r1 r2 =>
   rw [List.all_cons, Bool.and_eq_true] at hs
   obtain ⟨h1, h2⟩ := sD hv sv hu us _ _ r2 hs.2
   have e := UE (dv := dv) r1 (SeqAt.canLay_of_shaped hs.1)
   have hy : SeqAt.EqAt A s y v (PyData.eqv d dv) := SeqAt.eqAt_reads d dv A s y v _ _ r1 hv (SeqAt.canLay_of_shaped hs.1) (SeqAt.canLay_of_shaped sv) (SeqAt.room_of_shaped hs.1 hu)
   refine ⟨fun z hz => ?_, by rw [List.any_cons, List.any_cons, e, h2]⟩
   rcases List.mem_cons.mp hz with q | q
   · rw [q, e]; exact hy
   · exact h1 z q
def aAh (K : PySem.W.Frag) (neg : Bool) : R2 := fun x y H Q => ∃ dx ds p vs, Rep K H dx x /\ y = .ref p /\ (SqL K H p vs \/ SqT K H p vs) /\ RepAll K H ds vs /\ SeqAt.shaped dx = true /\ ds.all SeqAt.shaped = true /\
 Q (.bl (if neg then !ds.any fun d => PyData.eqv d dx else ds.any fun d => PyData.eqv d dx)) H
theorem ZQ (hu : X.A.in1.units + 64 < cLine) : OpR X (compareOp .In) (aAh X.K false) := by
 intro pins s σ H x y v u Q I rx ry h
 obtain ⟨dx, ds, p, vs, hx, rfl, hp, hds, sx, sds, q⟩ := h
 cases ry
 obtain ⟨as, ha⟩ := Rep.reads I dx x v hx rx
 rcases hp with hp | hp
 · obtain ⟨its, r, pl, hz⟩ := I.list hp
   obtain ⟨bs, hb⟩ := RepAll.reads I ds vs its hds r
   obtain ⟨h1, h2⟩ := sD (A := X.A.in1) ha sx hu its ds bs hb sds
   refine SeqAt.in_listAt (uP s.heap dx) pl.isList (fun w hw => h1 w (by simpa using hw)) ⟨.bl _, H, I, rfl, ?_⟩
   rw [show its.toArray.any (uP s.heap dx) = its.any (uP s.heap dx) by simp, h2]
   exact q
 · obtain ⟨its, r, pl, hz⟩ := I.tuple hp
   obtain ⟨bs, hb⟩ := RepAll.reads I ds vs its hds r
   obtain ⟨h1, h2⟩ := sD (A := X.A.in1) ha sx hu its ds bs hb sds
   refine SeqAt.in_tupleAt (uP s.heap dx) pl (fun w hw => h1 w (by simpa using hw)) ⟨.bl _, H, I, rfl, ?_⟩
   rw [show its.toArray.any (uP s.heap dx) = its.any (uP s.heap dx) by simp, h2]
   exact q
theorem Vals.types : ∀ {Ts : List String} {its : List Value}, Vals (Ts.map V.ty) its -> its = Ts.map Value.type
 | [], _, h => by cases h; rfl
 | t :: Ts, its, h => by
  cases h with
  | cons r1 r2 => rw [show _ = Value.type t from r1, Vals.types r2]; rfl
theorem Vals.bools : ∀ {bs : List Bool} {its : List Value}, Vals (bs.map V.bl) its -> its = bs.map Value.bool
 | [], _, h => by cases h; rfl
 | b :: bs, its, h => by
  cases h with
  | cons r1 r2 => rw [show _ = Value.bool b from r1, Vals.bools r2]; rfl
theorem all_range (bs : List Bool) : (List.range bs.length).all (fun i => bs.getD i false) = bs.all id := by
 rw [Bool.eq_iff_iff]
 simp only [List.all_eq_true, List.mem_range, id]
 constructor
 · intro h b hb
   obtain ⟨i, hi, rfl⟩ := List.mem_iff_getElem.mp hb
   have := h i hi
   rw [List.getD_eq_getElem?_getD, List.getElem?_eq_getElem hi] at this
   exact this
 · intro h i hi
   rw [List.getD_eq_getElem?_getD, List.getElem?_eq_getElem hi]
   exact h _ (List.getElem_mem hi)
theorem zO {prog : Program} {w : World} {A : Around} {bs : List Bool} : TruthOf prog w A (fun i v => (bs.map Value.bool).toArray[i]? = some v) (fun i => bs.getD i false) := by
 intro i v s Q E hP hQ
 rw [List.getElem?_toArray, List.getElem?_map] at hP
 cases e : bs[i]? with
 | none => rw [e] at hP; cases hP
 | some b =>
  rw [e] at hP
  cases hP
  have hb : bs.getD i false = b := by rw [List.getD_eq_getElem?_getD, e]; rfl
  have hQ' : Q (bs.getD i false) s := hQ
  rw [hb] at hQ'
  exact wpAny_truthy_bool hQ'
def lK : Nat := 2 ^ 8000
def Wide (i : Int) : Prop := i.natAbs < lK
theorem yY {j : Int} (h : Wide j) : j.natAbs.log2 < 9000 := by
 by_cases h0 : j.natAbs = 0
 · rw [h0]; decide +kernel
 · exact Nat.lt_trans ((Nat.log2_lt h0).mpr h) (by decide)
def aCa (i j : Int) : Prop := Wide i /\ Wide j
theorem wL {j : Int} (h : Wide j) : Builtin.Int.intBits j <= 2 ^ 20 := by
 unfold Builtin.Int.intBits
 by_cases h0 : (j == 0) = true
 · rw [if_pos h0]; exact Nat.zero_le _
 · rw [if_neg h0]
   have := yY h
   omega
end
end L2
end
section
set_option Elab.async false
set_option linter.all false
set_option maxRecDepth 100000
set_option maxHeartbeats 4000000
namespace L2
open PySem PySem.Spec PyProof.Rows
structure Callee (P : Program) (w : World) (K : PySem.W.Frag) (mg : Str -> Option Value) (base : Heap) (k : Nat) (x : Str) (ps : List Str) (sp : Sp) (q : Bool := true) : Prop where
 ex : ∃ f fd, FnOk P w K mg base CX0 k f fd ps sp q /\ mg x = some (.ref f) /\ PySem.W.keepIn K (.ref f) = true /\ Binds K fd ps []
structure Def (K : PySem.W.Frag) (mg : Str -> Option Value) (x : Str) (st : Stmt) : Prop where
 ex : ∃ f fd, Fun K x x st f fd /\ mg x = some (.ref f)
section
variable {P : Program} {w : World} {K : PySem.W.Frag} {mg : Str -> Option Value} {base : Heap} {X : Cx}
theorem Def.ok {x : Str} {st : Stmt} {N ps : List Str} {k : Nat} {sp : Sp} {q : Bool} (D : Def K mg x st) (S : aS N ps (aG st))
 (hb : ∀ (kV doc pm : Value) (an : Option Addr) (cdv ct : Value) (us : List Value), us.length = ps.length -> bindArgs (PySem.W.fnOf x x (cW st) (bI st) (aG st) .none kV doc pm an cdv ct) ⟨us, []⟩ = pure (ps.zip us))
 (len : ∀ vs H Q E, sp vs H Q E -> vs.length = ps.length)
 (hbody : ∀ (f : Addr) (cdv : Value) (A : Around) (outer : List Env) (s : Shared) (H : Hp) (vs : List V) (Q : VK) (E : XK), Room k (A.deeper (envOfC x (aG st) s.heap.objs.size f cdv)) q -> sp vs H Q E ->
  ∃ t, PSs (jB CX0 P w K mg base N x (aG st) f cdv A outer s H E q).nox (bI st) t /\ t { nx := fun _ H' => Q .non H', rt := Q } (start N vs) H) : Callee P w K mg base (k + 1) x ps sp q := by
 obtain ⟨f, fd, F, m⟩ := D.ex
 exact ⟨f, fd, F.ok S len fun cdv A outer s H vs Q E hr h => hbody f cdv A outer s H vs Q E hr h, m, F.kp, F.binds hb⟩
theorem Callee.mono {j k : Nat} {x : Str} {ps : List Str} {sp : Sp} (C : Callee P w K mg base j x ps sp) (h : j <= k) : Callee P w K mg base k x ps sp := by
 obtain ⟨f, fd, F, r⟩ := C.ex
 exact ⟨f, fd, F.mono h, r⟩
theorem def_mk {x : Str} {st : Stmt} {h : Heap} {f : Addr} {oc : Value} {od an : Option Addr} {osl : Array (Option Value)} {kV doc pm cdv ct : Value} (X : K.In h) (G : h.Ns mainGlobals mg) (a : PySem.W.nsIn K mainGlobals x = some (some (.ref f)))
 (l : K.lookup f = some ⟨oc, od, .func (PySem.W.fnOf x x (cW st) (bI st) (aG st) .none kV doc pm an cdv ct), osl⟩) (c : PySem.W.codeIn K cdv x = true) (k : PySem.W.keepIn K (.ref f) = true) : Def K mg x st :=
 ⟨f, _, NP l c k, PySem.W.mg_of X G a⟩
theorem YB {k : Nat} {x : Str} {ps : List Str} {sp : Sp} {p pos : Pos} {e : Expr} {es : List Expr} {t : TA} {q : Bool} (C : Callee X.prog X.w X.K X.mg X.base k x ps sp q) (hr : Room k X.A q) (ha : PA X (e :: es) t) (hg : Gl X x := by rfl)
 (hdb : (x == ("__debug__" : Str)) = false := by decide) (he : starEach (e :: es) X.env = (false, eval e X.env) :: starEach es X.env := by rfl) (hpl : (backTo pos (starEach es X.env)).any (·.1) = false := by rfl) :
 PE X (.Call (.Name x p) (e :: es) [] pos) (LW sp [] E0 t) := by
 obtain ⟨f, fd, F, m, kp, b⟩ := C.ex
 exact PV F hr hg m kp b .nil aBC ha hdb he hpl
theorem Room.units1 {k : Nat} {A : Around} (r : Room k A) : A.in1.units + 64 < cLine := by have := r.un; show A.units + 1 + 64 < _; omega
def Free (mg : Str -> Option Value) (xs : List Str) : Prop := ∀ x ∈ xs, mg x = none
theorem Free.of {xs : List Str} (h : Free mg xs) (x : Str) (hx : x ∈ xs := by decide +kernel) : mg x = none := h x hx
theorem KP : Free mg [] := fun _ h => absurd h (by simp)
theorem dC {x : Str} {xs : List Str} (h : mg x = none) (hr : Free mg xs) : Free mg (x :: xs) := fun y hy => (List.mem_cons.mp hy).elim (fun e => e ▸ h) (hr y)
def CMulA (i j : Int) : Prop := CMul i j \/ aCa i j
theorem CMulA.ok {i j : Int} (h : CMulA i j) : IntMulOk i j := by
 rcases h with h | h
 · exact h.ok
 · exact IntMulOk.of_bits (wL h.1) (wL h.2)
theorem RC : OpR X (binaryOp .Mult) (rI CMulA fun i j => .int (i * j)) := opI fun _ _ _ _ _ _ _ hc q => mul_int q hc.ok
def UV (_ j : Int) : Prop := 0 < j /\ Wide j
theorem OA : OpR X (binaryOp .FloorDiv) (rI UV fun i j => .int (i / j)) := opI fun i j _ _ _ _ _ hc q => by
 refine floordiv_int (Int.ne_of_gt hc.1) ?_ (.inl (PyProof.noPylong_of_log2 (yY hc.2)))
 rw [Int.fdiv_eq_ediv_of_nonneg _ (Int.le_of_lt hc.1)]
 exact q
end
end L2
namespace L2
open PySem PySem.Spec PyProof.Rows
def UQ (sc0 : Scope) (N N' : List Str) (cap : List (Option Nat)) (scope : Scope) : Bool :=
 scope.names.all (fun y => y.2 != .cell) && (scope.kind == .function) && scope.names.all (fun y => y.2 != .local || scope.names.lookup y.1 == some .local) &&
 scope.names.all (fun y => y.2 != .free || (sc0.names.lookup y.1 == some .cell || sc0.names.lookup y.1 == some .free)) && (cap.length == N'.length) &&
 (List.range cap.length).all fun i => match cap[i]? with
  | some (some j) => (match N'[i]?, N[j]? with
   | some x, some y => x == y && scope.names.lookup x == some .free
   | _, _ => false)
  | _ => true
theorem pC {X : Cx} {sc0 scope : Scope} {N N' : List Str} {cap : List (Option Nat)} (h1 : X.env.scope = sc0) (h2 : X.N = N) (h : UQ sc0 N N' cap scope = true) : LcSc X N' cap scope := by
 unfold UQ at h
 simp only [Bool.and_eq_true, List.all_eq_true, beq_iff_eq, bne_iff_ne, ne_eq, Bool.or_eq_true, List.mem_range] at h
 obtain ⟨⟨⟨⟨⟨a, b⟩, c⟩, d⟩, e⟩, f⟩ := h
 refine ⟨a, b, fun y hy hk => ?_, fun y hy hk => ?_, e, fun i j hij => ?_⟩
 · rcases c y hy with z | z
   · exact absurd hk z
   · exact z
 · show X.env.scope.names.lookup y.1 = _ \/ X.env.scope.names.lookup y.1 = _
   rw [h1]
   rcases d y hy with z | z
   · exact absurd hk z
   · exact z
 · have hi : i < cap.length := (List.getElem?_eq_some_iff.mp hij).1
   have g := f i hi
   rw [hij] at g
   dsimp only at g
   rw [h2]
   split at g
   · rename_i x y ex ey
     rw [Bool.and_eq_true, beq_iff_eq, beq_iff_eq] at g
     exact ⟨x, ex, by rw [ey, g.1], g.2⟩
   · cases g
end L2
end
section
set_option Elab.async false
set_option linter.all false
set_option maxRecDepth 100000
set_option maxHeartbeats 4000000
namespace L2
open PySem PySem.Spec PyProof.Rows
def tyName : PyData -> String
 | .none => "NoneType"
 | .bool _ => "bool"
 | .int _ => "int"
 | .str _ => "str"
 | .list _ => "list"
 | .tuple _ => "tuple"
 | .dict _ => "dict"
def asked : List String := ["int", "bool", "str", "list", "tuple", "dict"]
def isT (T S : String) : Bool := T == S || (T == "int" && S == "bool")
def oZ (T : String) (d : PyData) : Bool := isT T (tyName d)
def aCr (S T : String) : Option Bool := if (Value.type S == Value.type T) = true then some true else if PySem.W.kitMeta T = true then (PySem.fastBuiltinMro S).map (·.contains (Value.type T)) else none
theorem IL : (["NoneType", "bool", "int", "str", "list", "tuple", "dict"].all fun S => asked.all fun T => aCr S T == some (isT T S)) = true := by decide +kernel
theorem NV {K : PySem.W.Frag} {T : String} {d : PyData} (h : T ∈ asked) : PySem.W.kitOne K (.type (tyName d)) (.type T) = some (oZ T d) := by
 have e : PySem.W.kitOne K (.type (tyName d)) (.type T) = aCr (tyName d) T := rfl
 rw [e]
 have hk := IL
 rw [List.all_eq_true] at hk
 have h1 := hk (tyName d) (by cases d <;> simp [tyName])
 rw [List.all_eq_true] at h1
 exact eq_of_beq (h1 T h)
theorem DP {K : PySem.W.Frag} {d : PyData} : ∀ {Ts : List String}, (∀ T ∈ Ts, T ∈ asked) -> PySem.W.kitAny K (.type (tyName d)) (Ts.map Value.type) = some (Ts.any fun T => oZ T d)
 | [], _ => rfl
 | T :: Ts, h => by
  rw [List.map_cons]
  unfold PySem.W.kitAny
  rw [NV (h T List.mem_cons_self), List.any_cons]
  cases oZ T d with
  | true => rfl
  | false => rw [Bool.false_or]; exact DP fun U hU => h U (List.mem_cons_of_mem _ hU)
section
variable {X : Cx}
theorem DY {pins : List (Addr × Obj)} {σ : St} {H : Hp} {s : Shared} (I : Inv X pins σ H s) : ∀ {d : PyData} {v : V} {u : Value}, Rep X.K H d v -> RelV v u -> ∃ Hc : Heap -> Prop, PySem.W.KitX X.K u (.type (tyName d)) Hc /\ Hc s.heap /\ u ≠ .builtin "__main__.__loader__#opaque"
 | .none, v, u, h, r => by
  rw [show v = .non from h] at r
  cases (show u = Value.none from r)
  exact ⟨_, PySem.W.kitx_none, True.intro, fun z => nomatch z⟩
 | .bool b, v, u, h, r => by
  rw [show v = .bl b from h] at r
  cases (show u = Value.bool b from r)
  exact ⟨_, PySem.W.kitx_bool, True.intro, fun z => nomatch z⟩
 | .int i, v, u, h, r => by
  rw [show v = .int i from h] at r
  obtain ⟨t, q⟩ := (show ∃ t, u = Value.int i t from r)
  cases q
  exact ⟨_, PySem.W.kitx_int, True.intro, fun z => nomatch z⟩
 | .str x, v, u, h, r => by
  rw [show v = .str x from h] at r
  obtain ⟨t, q⟩ := (show ∃ t, u = Value.str x t from r)
  cases q
  exact ⟨_, PySem.W.kitx_str, True.intro, fun z => nomatch z⟩
 | .list xs, v, u, h, r => by
  obtain ⟨a, vs, rfl, h2, _⟩ := h
  cases (show u = Value.ref a from r)
  obtain ⟨its, hv, ⟨o, n, hg, hc, _, hd⟩, _⟩ := I.list h2
  exact ⟨_, PySem.W.kitx_list, ⟨o, hg, hc⟩, fun z => nomatch z⟩
 | .tuple xs, v, u, h, r => by
  obtain ⟨a, vs, rfl, h2, _⟩ := h
  cases (show u = Value.ref a from r)
  obtain ⟨its, hv, ⟨o, hg, hc, n, hd⟩, _⟩ := I.tuple h2
  exact ⟨_, PySem.W.kitx_tuple, ⟨o, hg, hc⟩, fun z => nomatch z⟩
 | .dict kvs, v, u, h, r => by
  obtain ⟨a, ks, rfl, h2, _⟩ := h
  cases (show u = Value.ref a from r)
  obtain ⟨_, _, vs, _, o, es, ep, h1, hx, _⟩ := (show ObjOk X.prog X.w H s.heap a (.dK ks) from I.hok a _ h2)
  exact ⟨_, PySem.W.kitx_dict, ⟨o, h1, hx.1⟩, fun z => nomatch z⟩
def XY (K : PySem.W.Frag) : List V -> Hp -> VK -> Prop := fun xs H Q => ∃ x T d, xs = [x, .ty T] /\ T ∈ asked /\ Rep K H d x /\ Q (.bl (oZ T d)) H
theorem GR : gV X (.builtin "isinstance") (XY X.K) := by
 intro pins s σ H xs us Q I r h
 obtain ⟨x, T, d, rfl, hT, hd, q⟩ := h
 obtain ⟨u, u', rfl, ru, ru'⟩ := vals2 r
 cases (show u' = Value.type T from ru')
 obtain ⟨Hc, Z, hh, hne⟩ := DY I hd ru
 exact PySem.W.kia_one Z I.kIn hh (NV hT) hne fun tk => ⟨.bl _, H, I.tok tk, rfl, q⟩
def IT (K : PySem.W.Frag) : List V -> Hp -> VK -> Prop := fun xs H Q => ∃ (x : V) (p : Addr) (Ts : List String) (d : PyData), xs = [x, .ref p] /\ H p = some (.tup (Ts.map V.ty)) /\ (∀ T ∈ Ts, T ∈ asked) /\ Rep K H d x /\ Q (.bl (Ts.any fun T => oZ T d)) H
theorem CU : gV X (.builtin "isinstance") (IT X.K) := by
 intro pins s σ H xs us Q I r h
 obtain ⟨x, p, Ts, d, rfl, hp, hT, hd, q⟩ := h
 obtain ⟨u, u', rfl, ru, ru'⟩ := vals2 r
 cases (show u' = Value.ref p from ru')
 obtain ⟨_, its, rv, o, hg, hcl, n, hd'⟩ := (show ObjOk X.prog X.w H s.heap p (.tup (Ts.map V.ty)) from I.hok p _ hp)
 have hits : its = Ts.map Value.type := Vals.types rv
 subst hits
 obtain ⟨oc, od, odt, osl⟩ := o
 dsimp only at hcl hd'
 subst hcl hd'
 obtain ⟨Hc, Z, hh, hne⟩ := DY I hd ru
 exact PySem.W.kia_tup Z I.kIn hh hg (DP hT) hne fun tk => ⟨.bl _, H, I.tok tk, rfl, q⟩
end
theorem Same.upd {H : Hp} {p : Addr} {o : HO} (h : H p = none) : Same H (upd H p o) := fun b u e => by rw [aI (aN e h)]; exact e
def aY : PyData -> Option (List PyData)
 | .list xs => some xs
 | .tuple xs => some xs
 | _ => none
theorem mM {K : PySem.W.Frag} {H : Hp} : ∀ {d : PyData} {v : V} {ds : List PyData}, Rep K H d v -> aY d = some ds -> ∃ a vs, v = .ref a /\ (SqL K H a vs \/ SqT K H a vs) /\ RepAll K H ds vs
 | .list xs, v, ds, h, e => by
  obtain ⟨a, vs, h1, h2, h3⟩ := h
  cases e
  exact ⟨a, vs, h1, .inl h2, h3⟩
 | .tuple xs, v, ds, h, e => by
  obtain ⟨a, vs, h1, h2, h3⟩ := h
  cases e
  exact ⟨a, vs, h1, .inr h2, h3⟩
 | .none, _, _, _, e => by cases e
 | .bool _, _, _, _, e => by cases e
 | .int _, _, _, _, e => by cases e
 | .str _, _, _, _, e => by cases e
 | .dict _, _, _, _, e => by cases e
section
variable {X : Cx} {tg : Expr}
def aAL (K : PySem.W.Frag) (tl : TE) : TI := fun σ H R => tl σ H fun x H1 => ∃ a, x = .ref a /\ ((∃ xs, SqL K H1 a xs /\ R (Itl K a) H1) \/ (∃ xs, SqT K H1 a xs /\ R (Itt K a) H1))
theorem aAf {l : Expr} {tl : TE} (hl : PE X l tl) : PI X tg l (aAL X.K tl) := by
 intro pins s σ H R I h
 refine thn (hl pins s σ H _ I h) fun v s1 hz => ?_
 obtain ⟨x, H1, I1, r1, a, e, q1⟩ := hz
 subst e
 cases r1
 have fp : ∀ b ∈ [s1.heap.objs.size], mS X pins H1 b := fun b hb => by
  have e : b = s1.heap.objs.size := List.mem_singleton.mp hb
  subst e
  exact I1.fpOk (Nat.le_refl _) (I1.hok.fresh (Nat.le_refl _))
 rcases q1 with ⟨xs, hq, q⟩ | ⟨xs, hq, q⟩
 · obtain ⟨its, rv, p, hz⟩ := I1.list hq
   refine wpAny_pyIter_list p.isList ?_
   exact ⟨s1.heap.objs.size, [s1.heap.objs.size], _, _, H1, rfl, I1.kept (t' := s1.toks) fun b o e => Heap.get?_push_of_some _ e, HQ a _, ⟨_, Heap.get?_push_size _ rfl, rfl, rfl⟩, fp, q⟩
 · obtain ⟨its, rv, p, hz⟩ := I1.tuple hq
   refine wpAny_pyIter_tuple (show s1.heap.IsTuple a its.toArray from p) ?_
   exact ⟨s1.heap.objs.size, [s1.heap.objs.size], _, _, H1, rfl, I1.kept (t' := s1.toks) fun b o e => Heap.get?_push_of_some _ e, CN a _, ⟨_, Heap.get?_push_size _ rfl, rfl, rfl⟩, fp, q⟩
end
end L2
end
section
set_option Elab.async false
set_option linter.all false
set_option maxRecDepth 100000
set_option maxHeartbeats 4000000
namespace L2
open PySem PySem.Spec PyProof.Rows
inductive CD where
 | d (x : PyData)
 | c (n : Nat)
inductive Cell where
 | lst (xs : List CD)
 | dk (kvs : List (Key × CD))
 | dt (kvs : List (List Key × CD))
 | obj (nm : Str) (fs : List (Str × CD))
 | exc (fr : Bool) (nm : Str) (fs : List (Str × CD))
 | dead
structure Wd where
 F : Hp
 α : Nat -> Addr
 n : Nat
structure Wd.Ext (W W' : Wd) : Prop where
 ff : Same W.F W'.F
 ln : W.n <= W'.n
 al : ∀ i, i < W.n -> W'.α i = W.α i
theorem Wd.Ext.refl (W : Wd) : W.Ext W := ⟨Same.refl _, Nat.le_refl _, fun _ _ => rfl⟩
theorem Wd.Ext.trans {W W1 W2 : Wd} (a : W.Ext W1) (b : W1.Ext W2) : W.Ext W2 := ⟨a.ff.trans b.ff, Nat.le_trans a.ln b.ln, fun i h => (b.al i (Nat.lt_of_lt_of_le h a.ln)).trans (a.al i h)⟩
def RepV (K : PySem.W.Frag) (W : Wd) : CD -> V -> Prop
 | .d x, v => Rep K W.F x v
 | .c i, v => i < W.n /\ v = .ref (W.α i)
abbrev RepVs (K : PySem.W.Frag) (W : Wd) : List CD -> List V -> Prop := Paired (RepV K W)
def BM (K : PySem.W.Frag) (W : Wd) : Option CD -> Option V -> Prop
 | none, none => True
 | some x, some v => RepV K W x v
 | _, _ => False
abbrev RepS (K : PySem.W.Frag) (W : Wd) : List (Option CD) -> St -> Prop := Paired (BM K W)
def aP (K : PySem.W.Frag) (nm : Str) : Addr := match PySem.W.nsIn K mainGlobals nm with
 | some (some (.ref C)) => C
 | _ => 0
def jL (a : Addr) (c : Value) (dx : Option Addr) (fr : Bool) (h : Heap) : Prop := ∃ o vs, h.get? a = some o /\ o.cls = c /\ o.dict = dx /\ o.data = .fields vs /\ (fr = true -> 1 < vs.size /\ vs[1]? = some .none)
def RepX (K : PySem.W.Frag) (W : Wd) (dx : Option Addr) (fs : List (Str × CD)) : Prop := match dx with
 | none => fs = []
 | some d => fs ≠ [] /\ ∃ us, W.F d = some (.xd us) /\ Paired (fun p q => p.1 = q.1 /\ RepV K W p.2 q.2) fs us
def RepC (K : PySem.W.Frag) (W : Wd) (a : Addr) : Cell -> HO -> Prop
 | .lst xs, .lst vs => RepVs K W xs vs
 | .dk kvs, .dK us => Paired (fun p q => p.1 = q.1 /\ RepV K W p.2 q.2) kvs us
 | .dt kvs, .dT us => Paired (fun p q => p.1 = q.1 /\ RepV K W p.2 q.2) kvs us
 | .obj nm fs, .ins C _ us => C = aP K nm /\ Paired (fun p q => p.1 = q.1 /\ RepV K W p.2 q.2) fs us
 | .exc fr nm fs, .ext φ => ∃ dx, φ = jL a (.ref (aP K nm)) dx fr /\ RepX K W dx fs
 | _, _ => False
structure Good (K : PySem.W.Frag) (W : Wd) (M : List Cell) (H : Hp) : Prop where
 fh : Same W.F H
 n : W.n = M.length
 cs : ∀ i c, M[i]? = some c -> c ≠ .dead -> W.F (W.α i) = none /\ ∃ o, H (W.α i) = some o /\ RepC K W (W.α i) c o
 inj : ∀ i j c c', M[i]? = some c -> M[j]? = some c' -> c ≠ .dead -> c' ≠ .dead -> W.α i = W.α j -> i = j
section
variable {K : PySem.W.Frag} {W W' : Wd} {M M' : List Cell} {H H' : Hp}
theorem RepV.up {x : CD} {v : V} (h : RepV K W x v) (e : W.Ext W') : RepV K W' x v := by
 cases x with
 | d x => exact Rep.same e.ff _ _ h
 | c i => exact ⟨Nat.lt_of_lt_of_le h.1 e.ln, by rw [e.al i h.1]; exact h.2⟩
theorem RepVs.up {xs : List CD} {vs : List V} (h : RepVs K W xs vs) (e : W.Ext W') : RepVs K W' xs vs := Paired.mapP h fun _ _ r => RepV.up r e
theorem RepS.up {γ : List (Option CD)} {σ : St} (h : RepS K W γ σ) (e : W.Ext W') : RepS K W' γ σ := Paired.mapP h fun a b r => by
 cases a <;> cases b
 · exact True.intro
 · exact False.elim r
 · exact False.elim r
 · exact RepV.up r e
theorem RepX.up {dx : Option Addr} {fs : List (Str × CD)} (h : RepX K W dx fs) (e : W.Ext W') : RepX K W' dx fs := by
 cases dx with
 | none => exact h
 | some d =>
  obtain ⟨h0, us, h1, h2⟩ := h
  exact ⟨h0, us, e.ff _ _ h1, Paired.mapP h2 fun _ _ r => ⟨r.1, RepV.up r.2 e⟩⟩
theorem RepC.up {a : Addr} {c : Cell} {o : HO} (h : RepC K W a c o) (e : W.Ext W') : RepC K W' a c o := by
 cases c <;> cases o <;> first | exact (let ⟨dx, h1, h2⟩ := h; ⟨dx, h1, h2.up e⟩) | exact False.elim h | exact RepVs.up h e | exact Paired.mapP h fun _ _ r => ⟨r.1, RepV.up r.2 e⟩ | exact ⟨h.1, Paired.mapP h.2 fun _ _ r => ⟨r.1, RepV.up r.2 e⟩⟩
theorem Good.lay (g : Good K W M H) {p : Addr} {o : HO} (hp : H p = none) : W.Ext { W with F := upd W.F p o } /\ Good K { W with F := upd W.F p o } M (upd H p o) := by
 have fp : W.F p = none := g.fh.free hp
 have e : W.Ext { W with F := upd W.F p o } := ⟨Same.upd fp, Nat.le_refl _, fun _ _ => rfl⟩
 refine ⟨e, ?_, g.n, fun i c hi hc => ?_, g.inj⟩
 · intro b u hb
   have hb : upd W.F p o b = some u := hb
   by_cases q : b = p
   · subst q; rw [aT] at hb; rw [aT]; exact hb
   · rw [aI q] at hb
     rw [aI q]; exact g.fh b u hb
 · obtain ⟨h1, o', h2, h3⟩ := g.cs i c hi hc
   have ne : W.α i ≠ p := aN h2 hp
   exact ⟨by show upd W.F p o (W.α i) = none; rw [aI ne]; exact h1, o', by rw [aI ne]; exact h2, h3.up e⟩
def Wd.more (W : Wd) (p : Addr) : Wd := { W with α := fun i => if i = W.n then p else W.α i, n := W.n + 1 }
theorem Wd.ext_more (W : Wd) (p : Addr) : W.Ext (W.more p) := ⟨Same.refl _, Nat.le_succ _, fun i h => if_neg (Nat.ne_of_lt h)⟩
theorem Good.new (g : Good K W M H) {p : Addr} {c : Cell} {o : HO} (hp : H p = none) (r : RepC K W p c o) : Good K (W.more p) (M ++ [c]) (upd H p o) := by
 have e := W.ext_more p
 have at_ : ∀ i c', (M ++ [c])[i]? = some c' -> (i < M.length /\ M[i]? = some c') \/ (i = M.length /\ c' = c) := fun i c' h => by
  by_cases q : i < M.length
  · rw [List.getElem?_append_left q] at h; exact .inl ⟨q, h⟩
  · rw [List.getElem?_append_right (Nat.le_of_not_lt q)] at h
    have h' : i - M.length = 0 := by
     cases k : i - M.length with
     | zero => rfl
     | succ m => rw [k] at h; simp at h
    rw [h'] at h
    refine .inr ⟨by omega, ?_⟩
    simpa using h.symm
 have al : ∀ i, i < M.length -> (W.more p).α i = W.α i := fun i h => e.al i (by rw [g.n]; exact h)
 have an : (W.more p).α M.length = p := by show (if M.length = W.n then p else _) = p; rw [if_pos g.n.symm]
 have nep : ∀ i c', M[i]? = some c' -> c' ≠ .dead -> W.α i ≠ p := fun i c' h hc => by
  obtain ⟨_, o', h2, _⟩ := g.cs i c' h hc
  exact aN h2 hp
 refine ⟨?_, ?_, fun i c' hi hc => ?_, fun i j c1 c2 hi hj d1 d2 he => ?_⟩
 · intro b u hb
   have := g.fh b u hb
   rw [aI (aN this hp)]; exact this
 · show W.n + 1 = _
   rw [g.n, List.length_append]; rfl
 · rcases at_ i c' hi with ⟨q, h⟩ | ⟨rfl, rfl⟩
   · obtain ⟨h1, o', h2, h3⟩ := g.cs i c' h hc
     rw [al i q]
     exact ⟨h1, o', by rw [aI (nep i c' h hc)]; exact h2, h3.up e⟩
   · rw [an]
     exact ⟨g.fh.free hp, o, aT, r.up e⟩
 · rcases at_ i c1 hi with ⟨q, h⟩ | ⟨rfl, rfl⟩
   · rcases at_ j c2 hj with ⟨q', h'⟩ | ⟨rfl, rfl⟩
     · rw [al i q, al j q'] at he
       exact g.inj i j c1 c2 h h' d1 d2 he
     · rw [al i q, an] at he
       exact absurd he (nep i c1 h d1)
   · rcases at_ j c2 hj with ⟨q', h'⟩ | ⟨rfl, rfl⟩
     · rw [an, al j q'] at he
       exact absurd he.symm (nep j c2 h' d2)
     · rfl
theorem Good.set (g : Good K W M H) {i : Nat} {c c' : Cell} {o' : HO} (hi : M[i]? = some c) (hc : c ≠ .dead) (r : RepC K W (W.α i) c' o') : Good K W (M.set i c') (upd H (W.α i) o') := by
 obtain ⟨h1, o, h2, h3⟩ := g.cs i c hi hc
 have lt : i < M.length := (List.getElem?_eq_some_iff.mp hi).1
 have at_ : ∀ j d, (M.set i c')[j]? = some d -> (j = i /\ d = c') \/ (j ≠ i /\ M[j]? = some d) := fun j d h => by
  by_cases q : i = j
  · subst q; rw [List.getElem?_set_self lt] at h; exact .inl ⟨rfl, (Option.some.inj h).symm⟩
  · rw [List.getElem?_set_ne q] at h; exact .inr ⟨fun z => q z.symm, h⟩
 refine ⟨?_, by rw [g.n, List.length_set], fun j d hj hd => ?_, fun j k d1 d2 hj hk e1 e2 he => ?_⟩
 · intro b u hb
   rw [aI (aN hb h1)]; exact g.fh b u hb
 · rcases at_ j d hj with ⟨rfl, rfl⟩ | ⟨q, h⟩
   · exact ⟨h1, o', aT, r⟩
   · obtain ⟨k1, u, k2, k3⟩ := g.cs j d h hd
     have ne : W.α j ≠ W.α i := fun z => q (g.inj j i d c h hi hd hc z)
     exact ⟨k1, u, by rw [aI ne]; exact k2, k3⟩
 · rcases at_ j d1 hj with ⟨rfl, rfl⟩ | ⟨q, h⟩ <;> rcases at_ k d2 hk with ⟨rfl, rfl⟩ | ⟨q', h'⟩
   · rfl
   · exact g.inj _ k c d2 hi h' hc e2 he
   · exact g.inj j _ d1 c h hi e1 hc he
   · exact g.inj j k d1 d2 h h' e1 e2 he
end
end L2
end
section
set_option Elab.async false
set_option linter.all false
set_option maxRecDepth 100000
set_option maxHeartbeats 4000000
namespace L2
open PySem PySem.Spec PyProof.Rows
abbrev Ga := List (Option CD)
abbrev Sto := List Cell
abbrev EF := Ga -> Sto -> Option (CD × Sto)
abbrev TF := Ga -> Sto -> Option (Bool × Sto)
abbrev AF := Ga -> Sto -> Option (List CD × Sto)
inductive Out where
 | nx (γ : Ga) | bk (γ : Ga) | ct (γ : Ga) | rt (x : CD)
abbrev SF := Ga -> Sto -> Option (Out × Sto)
abbrev GF := CD -> Ga -> Sto -> Option (Ga × Sto)
abbrev GsF := List CD -> Ga -> Sto -> Option (Ga × Sto)
abbrev F1 := CD -> Sto -> Option (CD × Sto)
abbrev F2 := CD -> CD -> Sto -> Option (CD × Sto)
abbrev FN := List CD -> Sto -> Option (CD × Sto)
section
variable (K : PySem.W.Frag)
def SE (t : TE) (f : EF) : Prop := ∀ γ M x M', f γ M = some (x, M') -> ∀ (W : Wd) (H : Hp) (σ : St) (Q : VK), Good K W M H -> RepS K W γ σ -> (∀ v W' H', W.Ext W' -> Good K W' M' H' -> RepV K W' x v -> Q v H') -> t σ H Q
def STt (t : TT) (f : TF) : Prop := ∀ γ M b M', f γ M = some (b, M') -> ∀ (W : Wd) (H : Hp) (σ : St) (Q : Bool -> Hp -> Prop), Good K W M H -> RepS K W γ σ -> (∀ W' H', W.Ext W' -> Good K W' M' H' -> Q b H') -> t σ H Q
def SA (t : TA) (f : AF) : Prop := ∀ γ M xs M', f γ M = some (xs, M') -> ∀ (W : Wd) (H : Hp) (σ : St) (Q : List V -> Hp -> Prop), Good K W M H -> RepS K W γ σ -> (∀ vs W' H', W.Ext W' -> Good K W' M' H' -> RepVs K W' xs vs -> Q vs H') -> t σ H Q
def JH (D : Ends) (W : Wd) (H : Hp) : Out -> Prop
 | .nx γ => ∀ σ, RepS K W γ σ -> D.nx σ H
 | .bk γ => ∀ σ, RepS K W γ σ -> D.bk σ H
 | .ct γ => ∀ σ, RepS K W γ σ -> D.ct σ H
 | .rt x => ∀ v, RepV K W x v -> D.rt v H
def SS (t : TS) (f : SF) : Prop := ∀ γ M o M', f γ M = some (o, M') -> ∀ (W : Wd) (H : Hp) (σ : St) (D : Ends), Good K W M H -> RepS K W γ σ -> (∀ W' H', W.Ext W' -> Good K W' M' H' -> JH K D W' H' o) -> t D σ H
def SG (t : TG) (f : GF) : Prop := ∀ x γ M γ' M', f x γ M = some (γ', M') -> ∀ (W : Wd) (H : Hp) (σ : St) (v : V) (Q : St -> Hp -> Prop), Good K W M H -> RepS K W γ σ -> RepV K W x v -> (∀ σ' W' H', W.Ext W' -> Good K W' M' H' -> RepS K W' γ' σ' -> Q σ' H') -> t v σ H Q
def SGs (t : TGs) (f : GsF) : Prop := ∀ xs γ M γ' M', f xs γ M = some (γ', M') -> ∀ (W : Wd) (H : Hp) (σ : St) (vs : List V) (Q : St -> Hp -> Prop), Good K W M H -> RepS K W γ σ -> RepVs K W xs vs -> (∀ σ' W' H', W.Ext W' -> Good K W' M' H' -> RepS K W' γ' σ' -> Q σ' H') -> t vs σ H Q
def P2 (r : R2) (f : F2) : Prop := ∀ x y M z M', f x y M = some (z, M') -> ∀ (W : Wd) (H : Hp) (v u : V) (Q : VK), Good K W M H -> RepV K W x v -> RepV K W y u -> (∀ w W' H', W.Ext W' -> Good K W' M' H' -> RepV K W' z w -> Q w H') -> r v u H Q
def P1 (r : V -> Hp -> VK -> Prop) (f : F1) : Prop := ∀ x M z M', f x M = some (z, M') -> ∀ (W : Wd) (H : Hp) (v : V) (Q : VK), Good K W M H -> RepV K W x v -> (∀ w W' H', W.Ext W' -> Good K W' M' H' -> RepV K W' z w -> Q w H') -> r v H Q
def PN (r : List V -> Hp -> VK -> Prop) (f : FN) : Prop := ∀ xs M z M', f xs M = some (z, M') -> ∀ (W : Wd) (H : Hp) (vs : List V) (Q : VK), Good K W M H -> RepVs K W xs vs -> (∀ w W' H', W.Ext W' -> Good K W' M' H' -> RepV K W' z w -> Q w H') -> r vs H Q
def spM (f : FN) : Sp := fun vs H Q _ => ∃ xs M W y M', Good K W M H /\ RepVs K W xs vs /\ f xs M = some (y, M') /\ ∀ v W' H', W.Ext W' -> Good K W' M' H' -> RepV K W' y v -> Q v H'
end
def aE (i : Nat) : EF := fun γ M => match γ[i]? with
 | some (some x) => some (x, M)
 | _ => none
def fC (x : PyData) : EF := fun _ M => some (.d x, M)
def fOp (h : F2) (f g : EF) : EF := fun γ M => (f γ M).bind fun r => (g γ r.2).bind fun q => h r.1 q.1 q.2
def fUn (h : F1) (f : EF) : EF := fun γ M => (f γ M).bind fun r => h r.1 r.2
def asB : CD -> Option Bool
 | .d (.bool b) => some b
 | _ => none
def gX (f g : EF) : EF := fun γ M => (f γ M).bind fun r => (asB r.1).bind fun b => if b = true then g γ r.2 else some (.d (.bool false), r.2)
def fOr (f g : EF) : EF := fun γ M => (f γ M).bind fun r => (asB r.1).bind fun b => if b = true then some (.d (.bool true), r.2) else g γ r.2
def tP (f : EF) : EF := fun γ M => (f γ M).bind fun r => (asB r.1).bind fun b => some (.d (.bool (!b)), r.2)
def fIf (t : TF) (f g : EF) : EF := fun γ M => (t γ M).bind fun r => if r.1 = true then f γ r.2 else g γ r.2
def aCN (f g : TF) : TF := fun γ M => (f γ M).bind fun r => if r.1 = true then g γ r.2 else some (false, r.2)
def gOr (f g : TF) : TF := fun γ M => (f γ M).bind fun r => if r.1 = true then some (true, r.2) else g γ r.2
def jX (f : TF) : TF := fun γ M => (f γ M).bind fun r => some (!r.1, r.2)
def gB (f : EF) : TF := fun γ M => (f γ M).bind fun r => (asB r.1).bind fun b => some (b, r.2)
def tJ (h h' : F2) (f g e : EF) : EF := fun γ M => (f γ M).bind fun r => (g γ r.2).bind fun q => (h r.1 q.1 q.2).bind fun z => (asB z.1).bind fun b => if b = true then (e γ z.2).bind fun w => h' q.1 w.1 w.2 else some (.d (.bool false), z.2)
def aJ : AF := fun _ M => some ([], M)
def aB (f : EF) (g : AF) : AF := fun γ M => (f γ M).bind fun r => (g γ r.2).bind fun q => some (r.1 :: q.1, q.2)
def lO : List CD -> Option (List PyData)
 | [] => some []
 | .d x :: r => (lO r).map (x :: ·)
 | .c _ :: _ => none
def cL (f : AF) : EF := fun γ M => (f γ M).bind fun r => (lO r.1).bind fun ds => if ds.length <= sizeLine then some (.d (.tuple ds), r.2) else none
def gZ (f : AF) : EF := fun γ M => (f γ M).bind fun r => (lO r.1).bind fun ds => if ds.length <= sizeLine then some (.d (.list ds), r.2) else none
def AS (f : AF) : EF := fun γ M => (f γ M).bind fun r => if r.1.length <= sizeLine then some (.c r.2.length, r.2 ++ [.lst r.1]) else none
def aM (h : FN) (f : AF) : EF := fun γ M => (f γ M).bind fun r => h r.1 r.2
def bM : SF := fun γ M => some (.nx γ, M)
def bC (f g : SF) : SF := fun γ M => (f γ M).bind fun r => match r.1 with
 | .nx γ' => g γ' r.2
 | o => some (o, r.2)
def EU (f : EF) : SF := fun γ M => (f γ M).bind fun r => some (.nx γ, r.2)
def bL (f : EF) : SF := fun γ M => (f γ M).bind fun r => some (.rt r.1, r.2)
def aCI : SF := fun _ M => some (.rt (.d .none), M)
def sIf (c : TF) (f g : SF) : SF := fun γ M => (c γ M).bind fun r => if r.1 = true then f γ r.2 else g γ r.2
def cN (f : EF) (g : GF) : SF := fun γ M => (f γ M).bind fun r => (g r.1 γ r.2).bind fun q => some (.nx q.1, q.2)
def hName (i : Nat) : GF := fun x γ M => some (γ.set i (some x), M)
def qH : GsF := fun xs γ M => match xs with
 | [] => some (γ, M)
 | _ => none
def dE (f : GF) (g : GsF) : GsF := fun xs γ M => match xs with
 | x :: r => (f x γ M).bind fun q => g r q.1 q.2
 | [] => none
def qA (n : Nat) (g : GsF) : GF := fun x γ M => match x with
 | .d (.tuple ds) => if ds.length = n then g (ds.map .d) γ M else none
 | _ => none
abbrev F3 := CD -> CD -> CD -> Sto -> Option Sto
def hSub (fo fi : EF) (s : F3) : GF := fun x γ M => (fo γ M).bind fun r => (fi γ r.2).bind fun q => (s r.1 q.1 x q.2).bind fun M' => some (γ, M')
def AZ (i j : Nat) (f : AF) : SF := fun γ M => (f γ M).bind fun r => match r.1 with
 | [x, y] => some (.nx ((γ.set i (some x)).set j (some y)), r.2)
 | _ => none
def jE (g : GF) (b : SF) : List CD -> Ga -> Sto -> Option (Out × Sto)
 | [], γ, M => some (.nx γ, M)
 | x :: xs, γ, M => (g x γ M).bind fun r => (b r.1 r.2).bind fun q => match q.1 with
  | .nx γ' => jE g b xs γ' q.2
  | .ct γ' => jE g b xs γ' q.2
  | .bk γ' => some (.nx γ', q.2)
  | .rt x => some (.rt x, q.2)
def pB (f : AF) (g : GF) (b : SF) : SF := fun γ M => (f γ M).bind fun r => jE g b r.1 γ r.2
def eV (c : TF) (b : SF) : Nat -> Ga -> Sto -> Option (Out × Sto)
 | 0, _, _ => none
 | n + 1, γ, M => (c γ M).bind fun r => if r.1 = true then (b γ r.2).bind fun q => match q.1 with
  | .nx γ' => eV c b n γ' q.2
  | .ct γ' => eV c b n γ' q.2
  | .bk γ' => some (.nx γ', q.2)
  | .rt x => some (.rt x, q.2) else some (.nx γ, r.2)
open Classical in
noncomputable def nR (c : TF) (b : SF) : SF := fun γ M => if h : ∃ n, (eV c b n γ M).isSome = true then eV c b h.choose γ M else none
def lcF (g : GF) (c : TF) (e : EF) : List CD -> Ga -> Sto -> Option (List CD × Sto)
 | [], γ, M => some ([], M)
 | x :: xs, γ, M => (g x γ M).bind fun a => (c a.1 a.2).bind fun b => if b.1 = true then (e a.1 b.2).bind fun r => (lcF g c e xs a.1 r.2).bind fun q => some (r.1 :: q.1, q.2) else lcF g c e xs a.1 b.2
def yP (cap : List (Option Nat)) (γ : Ga) : Ga := cap.map fun o => o.bind fun j => (γ[j]?).join
def nU : TF := fun _ M => some (true, M)
def nF (cap : List (Option Nat)) (f : AF) (g : GF) (c : TF) (e : EF) : AF := fun γ M => (f γ M).bind fun r => if r.1.length <= sizeLine then lcF g c e r.1 (yP cap γ) r.2 else none
def fLc (cap : List (Option Nat)) (f : AF) (g : GF) (c : TF) (e : EF) : EF := gZ (nF cap f g c e)
def fnF (ps N : Nat) (b : SF) : FN := fun xs M => if xs.length = ps then (b (xs.map some ++ List.replicate (N - xs.length) none) M).bind fun r => match r.1 with
 | .rt x => some (x, r.2)
 | .nx _ => some (.d .none, r.2)
 | _ => none else none
end L2
end
section
set_option Elab.async false
set_option linter.all false
set_option maxRecDepth 100000
set_option maxHeartbeats 4000000
namespace L2
open PySem PySem.Spec PyProof.Rows
theorem aH {α β : Type} {o : Option α} {k : α -> Option β} {r : β} (h : o.bind k = some r) : ∃ a, o = some a /\ k a = some r := by
 cases o with
 | none => cases h
 | some a => exact ⟨a, rfl, h⟩
theorem Paired.get {α β : Type} {R : α -> β -> Prop} : ∀ {xs : List α} {ys : List β} {i : Nat} {x : α}, Paired R xs ys -> xs[i]? = some x -> ∃ y, ys[i]? = some y /\ R x y
 | _, _, _, _, .nil, e => by simp at e
 | _, _, 0, _, .cons r _, e => by simp at e; subst e; exact ⟨_, rfl, r⟩
 | _, _, i + 1, x, .cons _ t, e => by
  obtain ⟨u, h1, h2⟩ := Paired.get (i := i) (x := x) t (by simpa using e)
  exact ⟨u, by simpa using h1, h2⟩
theorem Paired.set {α β : Type} {R : α -> β -> Prop} {x : α} {y : β} (r : R x y) : ∀ {xs : List α} {ys : List β} (i : Nat), Paired R xs ys -> Paired R (xs.set i x) (ys.set i y)
 | _, _, _, .nil => .nil
 | _, _, 0, .cons _ t => .cons r t
 | _, _, i + 1, .cons q t => .cons q (Paired.set r i t)
theorem Paired.app {α β : Type} {R : α -> β -> Prop} : ∀ {xs xs' : List α} {ys ys' : List β}, Paired R xs ys -> Paired R xs' ys' -> Paired R (xs ++ xs') (ys ++ ys')
 | _, _, _, _, .nil, s => s
 | _, _, _, _, .cons r t, s => .cons r (Paired.app t s)
theorem Paired.len {α β : Type} {R : α -> β -> Prop} {xs : List α} {ys : List β} (p : Paired R xs ys) : xs.length = ys.length := Paired.length p
section
variable {K : PySem.W.Frag}
theorem fI {W : Wd} : ∀ {xs : List CD} {ds : List PyData} {vs : List V}, lO xs = some ds -> RepVs K W xs vs -> RepAll K W.F ds vs
 | [], ds, vs, e, h => by
  cases e
  cases h
  rfl
 | .c _ :: _, ds, vs, e, h => by cases e
 | .d x :: r, ds, vs, e, h => by
  cases h with
  | @cons _ v _ vs' h1 h2 =>
   unfold lO at e
   cases q : lO r with
   | none => rw [q] at e; cases e
   | some es =>
    rw [q] at e
    cases e
    exact ⟨v, vs', rfl, h1, fI q h2⟩
theorem mF {W : Wd} : ∀ {ds : List PyData} {vs : List V}, RepAll K W.F ds vs -> RepVs K W (ds.map .d) vs
 | [], vs, h => by rw [show vs = [] from h]; exact .nil
 | d :: ds, vs, h => by
  obtain ⟨v, r, rfl, h1, h2⟩ := h
  exact .cons h1 (mF h2)
theorem tX : ∀ {xs : List CD} {ds : List PyData}, lO xs = some ds -> ds.length = xs.length
 | [], ds, e => by cases e; rfl
 | .c _ :: _, ds, e => by cases e
 | .d x :: r, ds, e => by
  unfold lO at e
  cases q : lO r with
  | none => rw [q] at e; cases e
  | some es =>
   rw [q] at e
   cases e
   rw [List.length_cons, List.length_cons, tX q]
theorem WU {i : Nat} : SE K (aBG i) (aE i) := by
 intro γ M x M' h W H σ Q g r k
 unfold aE at h
 cases e : γ[i]? with
 | none => rw [e] at h; cases h
 | some o =>
  cases o with
  | none => rw [e] at h; cases h
  | some y =>
   rw [e] at h
   cases h
   obtain ⟨v, hv, rv⟩ := Paired.get r e
   cases v with
   | none => exact False.elim rv
   | some v => exact ⟨v, hv, k v W H (.refl _) g rv⟩
theorem KJ {i : Int} : SE K (tC (.int i)) (fC (.int i)) := by
 intro γ M x M' h W H σ Q g r k
 cases h
 exact k _ W H (.refl _) g rfl
theorem aCw {b : Bool} : SE K (tC (.bl b)) (fC (.bool b)) := by
 intro γ M x M' h W H σ Q g r k
 cases h
 exact k _ W H (.refl _) g rfl
theorem YN : SE K (tC .non) (fC .none) := by
 intro γ M x M' h W H σ Q g r k
 cases h
 exact k _ W H (.refl _) g rfl
theorem XT {x : Str} : SE K (tC (.str x)) (fC (.str x)) := by
 intro γ M x M' h W H σ Q g r k
 cases h
 exact k _ W H (.refl _) g rfl
variable {ta tb tc : TE} {f g e : EF} {tt uu : TT} {ft gt : TF} {tA : TA} {fa : AF}
theorem ER {r : R2} {h : F2} (p : P2 K r h) (a : SE K ta f) (b : SE K tb g) : SE K (tOp r ta tb) (fOp h f g) := by
 intro γ M x M' hh W H σ Q G R k
 obtain ⟨⟨y, M1⟩, h1, hh⟩ := aH hh
 obtain ⟨⟨z, M2⟩, h2, hh⟩ := aH hh
 refine a _ _ _ _ h1 W H σ _ G R fun v W1 H1 e1 G1 r1 => ?_
 refine b _ _ _ _ h2 W1 H1 σ _ G1 (R.up e1) fun u W2 H2 e2 G2 r2 => ?_
 exact p _ _ _ _ _ hh W2 H2 v u Q G2 (r1.up e2) r2 fun w W3 H3 e3 G3 r3 => k w W3 H3 ((e1.trans e2).trans e3) G3 r3
theorem aBy {r : V -> Hp -> VK -> Prop} {h : F1} (p : P1 K r h) (a : SE K ta f) : SE K (tUn r ta) (fUn h f) := by
 intro γ M x M' hh W H σ Q G R k
 obtain ⟨⟨y, M1⟩, h1, hh⟩ := aH hh
 refine a _ _ _ _ h1 W H σ _ G R fun v W1 H1 e1 G1 r1 => ?_
 exact p _ _ _ _ hh W1 H1 v Q G1 r1 fun w W3 H3 e3 G3 r3 => k w W3 H3 (e1.trans e3) G3 r3
theorem uC {x : CD} {b : Bool} (h : asB x = some b) : x = .d (.bool b) := by
 cases x with
 | c n => cases h
 | d x => cases x <;> first | cases h; rfl | cases h
theorem aAS (a : SE K ta f) (b : SE K tb g) : SE K (VE ta tb) (gX f g) := by
 intro γ M x M' hh W H σ Q G R k
 obtain ⟨⟨y, M1⟩, h1, hh⟩ := aH hh
 obtain ⟨c, h2, hh⟩ := aH hh
 refine a _ _ _ _ h1 W H σ _ G R fun v W1 H1 e1 G1 r1 => ?_
 have hy : y = _ := uC h2
 subst hy
 refine ⟨c, r1, ?_⟩
 cases c with
 | true => rw [if_pos rfl]; rw [if_pos rfl] at hh; exact b _ _ _ _ hh W1 H1 σ Q G1 (R.up e1) fun w W3 H3 e3 G3 r3 => k w W3 H3 (e1.trans e3) G3 r3
 | false =>
  rw [if_neg Bool.false_ne_true]; rw [if_neg Bool.false_ne_true] at hh
  cases hh
  exact k _ W1 H1 e1 G1 rfl
theorem aBU (a : SE K ta f) (b : SE K tb g) : SE K (aCn ta tb) (fOr f g) := by
 intro γ M x M' hh W H σ Q G R k
 obtain ⟨⟨y, M1⟩, h1, hh⟩ := aH hh
 obtain ⟨c, h2, hh⟩ := aH hh
 refine a _ _ _ _ h1 W H σ _ G R fun v W1 H1 e1 G1 r1 => ?_
 have hy : y = _ := uC h2
 subst hy
 refine ⟨c, r1, ?_⟩
 cases c with
 | true =>
  rw [if_pos rfl]; rw [if_pos rfl] at hh
  cases hh
  exact k _ W1 H1 e1 G1 rfl
 | false => rw [if_neg Bool.false_ne_true]; rw [if_neg Bool.false_ne_true] at hh; exact b _ _ _ _ hh W1 H1 σ Q G1 (R.up e1) fun w W3 H3 e3 G3 r3 => k w W3 H3 (e1.trans e3) G3 r3
theorem WS (a : SE K ta f) : SE K (VB ta) (tP f) := by
 intro γ M x M' hh W H σ Q G R k
 obtain ⟨⟨y, M1⟩, h1, hh⟩ := aH hh
 obtain ⟨c, h2, hh⟩ := aH hh
 refine a _ _ _ _ h1 W H σ _ G R fun v W1 H1 e1 G1 r1 => ?_
 have hy : y = _ := uC h2
 subst hy
 cases hh
 exact ⟨c, r1, k _ W1 H1 e1 G1 rfl⟩
theorem aBI (t : STt K tt ft) (a : SE K ta f) (b : SE K tb g) : SE K (tIf tt ta tb) (fIf ft f g) := by
 intro γ M x M' hh W H σ Q G R k
 obtain ⟨⟨c, M1⟩, h1, hh⟩ := aH hh
 refine t _ _ _ _ h1 W H σ _ G R fun W1 H1 e1 G1 => ?_
 cases c with
 | true => rw [if_pos rfl]; rw [if_pos rfl] at hh; exact a _ _ _ _ hh W1 H1 σ Q G1 (R.up e1) fun w W3 H3 e3 G3 r3 => k w W3 H3 (e1.trans e3) G3 r3
 | false => rw [if_neg Bool.false_ne_true]; rw [if_neg Bool.false_ne_true] at hh; exact b _ _ _ _ hh W1 H1 σ Q G1 (R.up e1) fun w W3 H3 e3 G3 r3 => k w W3 H3 (e1.trans e3) G3 r3
theorem MZ {r r' : R2} {h h' : F2} (p : P2 K r h) (p' : P2 K r' h') (a : SE K ta f) (b : SE K tb g) (c : SE K tc e) : SE K (OC r r' ta tb tc) (tJ h h' f g e) := by
 intro γ M x M' hh W H σ Q G R k
 obtain ⟨⟨y, M1⟩, h1, hh⟩ := aH hh
 obtain ⟨⟨z, M2⟩, h2, hh⟩ := aH hh
 obtain ⟨⟨w, M3⟩, h3, hh⟩ := aH hh
 obtain ⟨q, h4, hh⟩ := aH hh
 refine a _ _ _ _ h1 W H σ _ G R fun v W1 H1 e1 G1 r1 => ?_
 refine b _ _ _ _ h2 W1 H1 σ _ G1 (R.up e1) fun u W2 H2 e2 G2 r2 => ?_
 refine p _ _ _ _ _ h3 W2 H2 v u _ G2 (r1.up e2) r2 fun t W3 H3 e3 G3 r3 => ?_
 have hy : w = _ := uC h4
 subst hy
 refine ⟨q, r3, ?_⟩
 have e13 := (e1.trans e2).trans e3
 cases q with
 | true =>
  rw [if_pos rfl]; rw [if_pos rfl] at hh
  obtain ⟨⟨m, M4⟩, h5, hh⟩ := aH hh
  refine c _ _ _ _ h5 W3 H3 σ _ G3 (R.up e13) fun o W4 H4 e4 G4 r4 => ?_
  exact p' _ _ _ _ _ hh W4 H4 u o Q G4 (r2.up (e3.trans e4)) r4 fun w W5 H5 e5 G5 r5 => k w W5 H5 ((e13.trans e4).trans e5) G5 r5
 | false =>
  rw [if_neg Bool.false_ne_true]; rw [if_neg Bool.false_ne_true] at hh
  cases hh
  exact k _ W3 H3 e13 G3 rfl
theorem aBZ (a : STt K tt ft) (b : STt K uu gt) : STt K (tOr tt uu) (gOr ft gt) := by
 intro γ M x M' hh W H σ Q G R k
 obtain ⟨⟨c, M1⟩, h1, hh⟩ := aH hh
 refine a _ _ _ _ h1 W H σ _ G R fun W1 H1 e1 G1 => ?_
 cases c with
 | true => rw [if_pos rfl]; rw [if_pos rfl] at hh; cases hh; exact k W1 H1 e1 G1
 | false => rw [if_neg Bool.false_ne_true]; rw [if_neg Bool.false_ne_true] at hh; exact b _ _ _ _ hh W1 H1 σ Q G1 (R.up e1) fun W3 H3 e3 G3 => k W3 H3 (e1.trans e3) G3
theorem YF (a : STt K tt ft) : STt K (aBY tt) (jX ft) := by
 intro γ M x M' hh W H σ Q G R k
 obtain ⟨⟨c, M1⟩, h1, hh⟩ := aH hh
 cases hh
 exact a _ _ _ _ h1 W H σ _ G R fun W1 H1 e1 G1 => k W1 H1 e1 G1
theorem XD (a : SE K ta f) : STt K (tB ta) (gB f) := by
 intro γ M x M' hh W H σ Q G R k
 obtain ⟨⟨y, M1⟩, h1, hh⟩ := aH hh
 obtain ⟨c, h2, hh⟩ := aH hh
 refine a _ _ _ _ h1 W H σ _ G R fun v W1 H1 e1 G1 r1 => ?_
 have hy : y = _ := uC h2
 subst hy
 cases hh
 exact ⟨_, r1, k W1 H1 e1 G1⟩
theorem QW (a : SE K ta f) : STt K (VT ta) (gB f) := XD a
theorem ZS : SA K HN aJ := by
 intro γ M x M' hh W H σ Q G R k
 cases hh
 exact k [] W H (.refl _) G .nil
theorem OW (a : SE K ta f) (b : SA K tA fa) : SA K (mI ta tA) (aB f fa) := by
 intro γ M x M' hh W H σ Q G R k
 obtain ⟨⟨y, M1⟩, h1, hh⟩ := aH hh
 obtain ⟨⟨ys, M2⟩, h2, hh⟩ := aH hh
 cases hh
 refine a _ _ _ _ h1 W H σ _ G R fun v W1 H1 e1 G1 r1 => ?_
 exact b _ _ _ _ h2 W1 H1 σ _ G1 (R.up e1) fun vs W2 H2 e2 G2 r2 => k _ W2 H2 (e1.trans e2) G2 (.cons (r1.up e2) r2)
theorem YX (b : SA K tA fa) : SE K (JK tA) (cL fa) := by
 intro γ M x M' hh W H σ Q G R k
 obtain ⟨⟨ys, M1⟩, h1, hh⟩ := aH hh
 obtain ⟨ds, h2, hh⟩ := aH hh
 by_cases hl : ds.length <= sizeLine
 · rw [if_pos hl] at hh
   cases hh
   refine b _ _ _ _ h1 W H σ _ G R fun vs W1 H1 e1 G1 r1 => ?_
   have ra := fI h2 r1
   refine ⟨by rw [<- ra.length]; exact hl, fun p hp => ?_⟩
   obtain ⟨e2, G2⟩ := G1.lay (o := .tup vs) hp
   exact k _ _ _ (e1.trans e2) G2 ⟨p, vs, rfl, SqT.of aT, RepAll.same e2.ff _ _ ra⟩
 · rw [if_neg hl] at hh; cases hh
theorem XF (b : SA K tA fa) : SE K (ZM tA) (gZ fa) := by
 intro γ M x M' hh W H σ Q G R k
 obtain ⟨⟨ys, M1⟩, h1, hh⟩ := aH hh
 obtain ⟨ds, h2, hh⟩ := aH hh
 by_cases hl : ds.length <= sizeLine
 · rw [if_pos hl] at hh
   cases hh
   refine b _ _ _ _ h1 W H σ _ G R fun vs W1 H1 e1 G1 r1 => ?_
   have ra := fI h2 r1
   refine ⟨by rw [<- ra.length]; exact hl, fun p hp => ?_⟩
   obtain ⟨e2, G2⟩ := G1.lay (o := .lst vs) hp
   exact k _ _ _ (e1.trans e2) G2 ⟨p, vs, rfl, SqL.of aT, RepAll.same e2.ff _ _ ra⟩
 · rw [if_neg hl] at hh; cases hh
theorem Good.newV {W : Wd} {M : Sto} {H : Hp} (g : Good K W M H) {p : Addr} : RepV K (W.more p) (.c M.length) (.ref p) := by
 refine ⟨?_, ?_⟩
 · show M.length < W.n + 1
   rw [g.n]; exact Nat.lt_succ_self _
 · show V.ref p = .ref (if M.length = W.n then p else W.α M.length)
   rw [if_pos g.n.symm]
theorem XZ (b : SA K tA fa) : SE K (ZM tA) (AS fa) := by
 intro γ M x M' hh W H σ Q G R k
 obtain ⟨⟨ys, M1⟩, h1, hh⟩ := aH hh
 by_cases hl : ys.length <= sizeLine
 · have hh : (if ys.length <= sizeLine then some (CD.c M1.length, M1 ++ [Cell.lst ys]) else none) = some (x, M') := hh
   rw [if_pos hl] at hh
   cases hh
   refine b _ _ _ _ h1 W H σ _ G R fun vs W1 H1 e1 G1 r1 => ?_
   refine ⟨by rw [<- Paired.len r1]; exact hl, fun p hp => ?_⟩
   exact k _ _ _ (e1.trans (W1.ext_more p)) (G1.new hp (c := .lst ys) (o := .lst vs) r1) G1.newV
 · have hh : (if ys.length <= sizeLine then some (CD.c M1.length, M1 ++ [Cell.lst ys]) else none) = some (x, M') := hh
   rw [if_neg hl] at hh; cases hh
theorem OY {h : FN} (b : SA K tA fa) : SE K (LW (spM K h) [] E0 tA) (aM h fa) := by
 intro γ M x M' hh W H σ Q G R k
 obtain ⟨⟨ys, M1⟩, h1, hh⟩ := aH hh
 refine b _ _ _ _ h1 W H σ _ G R fun vs W1 H1 e1 G1 r1 => ?_
 rw [List.append_nil]
 exact ⟨ys, M1, W1, x, M', G1, r1, hh, fun v W2 H2 e2 G2 r2 => k v W2 H2 (e1.trans e2) G2 r2⟩
theorem US {r : List V -> Hp -> VK -> Prop} {h : FN} (p : PN K r h) (b : SA K tA fa) : SE K (tCB r tA) (aM h fa) := by
 intro γ M x M' hh W H σ Q G R k
 obtain ⟨⟨ys, M1⟩, h1, hh⟩ := aH hh
 refine b _ _ _ _ h1 W H σ _ G R fun vs W1 H1 e1 G1 r1 => ?_
 exact p _ _ _ _ hh W1 H1 vs Q G1 r1 fun v W2 H2 e2 G2 r2 => k v W2 H2 (e1.trans e2) G2 r2
end
end L2
end
section
set_option Elab.async false
set_option linter.all false
set_option maxRecDepth 100000
set_option maxHeartbeats 4000000
namespace L2
open PySem PySem.Spec PyProof.Rows
section
variable {K : PySem.W.Frag} {ta tb tc : TE} {f g e : EF} {tt uu : TT} {ft gt : TF} {tA : TA} {fa : AF} {t u : TS} {p q : SF} {tg : TG} {hg : GF} {tgs : TGs} {hgs : GsF}
theorem SY : SS K VS bM := by
 intro γ M o M' hh W H σ D G R k
 cases hh
 exact k W H (.refl _) G σ R
theorem aAx (a : SS K t p) (b : SS K u q) : SS K (XR t u) (bC p q) := by
 intro γ M o M' hh W H σ D G R k
 obtain ⟨⟨o1, M1⟩, h1, hh⟩ := aH hh
 refine a _ _ _ _ h1 W H σ _ G R fun W1 H1 e1 G1 => ?_
 cases o1 with
 | nx γ1 =>
  intro σ1 R1
  exact b _ _ _ _ hh W1 H1 σ1 D G1 R1 fun W2 H2 e2 G2 => k W2 H2 (e1.trans e2) G2
 | bk γ1 => cases hh; exact k W1 H1 e1 G1
 | ct γ1 => cases hh; exact k W1 H1 e1 G1
 | rt x => cases hh; exact k W1 H1 e1 G1
theorem RG (a : SE K ta f) : SS K (VQ ta) (EU f) := by
 intro γ M o M' hh W H σ D G R k
 obtain ⟨⟨y, M1⟩, h1, hh⟩ := aH hh
 cases hh
 exact a _ _ _ _ h1 W H σ _ G R fun v W1 H1 e1 G1 r1 => k W1 H1 e1 G1 σ (R.up e1)
theorem aAP (a : SE K ta f) : SS K (aBw ta) (bL f) := by
 intro γ M o M' hh W H σ D G R k
 obtain ⟨⟨y, M1⟩, h1, hh⟩ := aH hh
 cases hh
 exact a _ _ _ _ h1 W H σ _ G R fun v W1 H1 e1 G1 r1 => k W1 H1 e1 G1 v r1
theorem aCx (c : STt K tt ft) (a : SS K t p) (b : SS K u q) : SS K (aBb tt t u) (sIf ft p q) := by
 intro γ M o M' hh W H σ D G R k
 obtain ⟨⟨c1, M1⟩, h1, hh⟩ := aH hh
 refine c _ _ _ _ h1 W H σ _ G R fun W1 H1 e1 G1 => ?_
 cases c1 with
 | true => rw [if_pos rfl]; rw [if_pos rfl] at hh; exact a _ _ _ _ hh W1 H1 σ D G1 (R.up e1) fun W3 H3 e3 G3 => k W3 H3 (e1.trans e3) G3
 | false => rw [if_neg Bool.false_ne_true]; rw [if_neg Bool.false_ne_true] at hh; exact b _ _ _ _ hh W1 H1 σ D G1 (R.up e1) fun W3 H3 e3 G3 => k W3 H3 (e1.trans e3) G3
theorem CI (a : SE K ta f) (b : SG K tg hg) : SS K (NS ta tg) (cN f hg) := by
 intro γ M o M' hh W H σ D G R k
 obtain ⟨⟨y, M1⟩, h1, hh⟩ := aH hh
 obtain ⟨⟨γ1, M2⟩, h2, hh⟩ := aH hh
 cases hh
 refine a _ _ _ _ h1 W H σ _ G R fun v W1 H1 e1 G1 r1 => ?_
 exact b _ _ _ _ _ h2 W1 H1 σ v _ G1 (R.up e1) r1 fun σ' W2 H2 e2 G2 R2 => k W2 H2 (e1.trans e2) G2 σ' R2
theorem RepS.set {W : Wd} {γ : Ga} {σ : St} {x : CD} {v : V} (R : RepS K W γ σ) (i : Nat) (r : RepV K W x v) : RepS K W (γ.set i (some x)) (σ.set i (some v)) := Paired.set (R := BM K W) (show BM K W (some x) (some v) from r) i R
theorem rY {i : Nat} : SG K (zD i) (hName i) := by
 intro x γ M γ' M' hh W H σ v Q G R r k
 cases hh
 exact k _ W H (.refl _) G (RepS.set R i r)
theorem RP : SGs K aCc qH := by
 intro xs γ M γ' M' hh W H σ vs Q G R r k
 cases r with
 | nil => cases hh; exact ⟨rfl, k σ W H (.refl _) G R⟩
 | cons _ _ => cases hh
theorem IX (a : SG K tg hg) (b : SGs K tgs hgs) : SGs K (VO tg tgs) (dE hg hgs) := by
 intro xs γ M γ' M' hh W H σ vs Q G R r k
 cases r with
 | nil => cases hh
 | @cons x v xs vs r1 r2 =>
  obtain ⟨⟨γ1, M1⟩, h1, hh⟩ := aH (show (hg x γ M).bind _ = _ from hh)
  refine ⟨v, vs, rfl, a _ _ _ _ _ h1 W H σ v _ G R r1 fun σ1 W1 H1 e1 G1 R1 => ?_⟩
  exact b _ _ _ _ _ hh W1 H1 σ1 vs _ G1 R1 (RepVs.up r2 e1) fun σ2 W2 H2 e2 G2 R2 => k σ2 W2 H2 (e1.trans e2) G2 R2
theorem WY {n : Nat} (b : SGs K tgs hgs) : SG K (aAA K n tgs) (qA n hgs) := by
 intro x γ M γ' M' hh W H σ v Q G R r k
 cases x with
 | c _ => cases hh
 | d x =>
  cases x with
  | tuple ds =>
   have hh : (if ds.length = n then hgs (ds.map .d) γ M else none) = some (γ', M') := hh
   by_cases hl : ds.length = n
   · rw [if_pos hl] at hh
     obtain ⟨a, vs, rfl, h2, h3⟩ := (show ∃ a vs, v = .ref a /\ SqT K W.F a vs /\ RepAll K W.F ds vs from r)
     exact ⟨a, vs, rfl, G.fh.seqT h2, by rw [<- h3.length]; exact hl, b _ _ _ _ _ hh W H σ vs Q G R (mF h3) k⟩
   · rw [if_neg hl] at hh; cases hh
  | _ => cases hh
def P3 (K : PySem.W.Frag) (r : V -> V -> V -> Hp -> (Hp -> Prop) -> Prop) (f : F3) : Prop := ∀ x y z M M', f x y z M = some M' -> ∀ (W : Wd) (H : Hp) (v u w : V) (Q : Hp -> Prop), Good K W M H -> RepV K W x v -> RepV K W y u -> RepV K W z w -> (∀ W' H', W.Ext W' -> Good K W' M' H' -> Q H') -> r v u w H Q
theorem aAb {r : SU} {s : F3} (p : P3 K r s) (a : SE K ta f) (b : SE K tb g) : SG K (aCk ta tb r) (hSub f g s) := by
 intro x γ M γ' M' hh W H σ v Q G R rv k
 obtain ⟨⟨o, M1⟩, h1, hh⟩ := aH hh
 obtain ⟨⟨i, M2⟩, h2, hh⟩ := aH hh
 obtain ⟨M3, h3, hh⟩ := aH hh
 cases hh
 refine a _ _ _ _ h1 W H σ _ G R fun v1 W1 H1 e1 G1 r1 => ?_
 refine b _ _ _ _ h2 W1 H1 σ _ G1 (R.up e1) fun v2 W2 H2 e2 G2 r2 => ?_
 exact p _ _ _ _ _ h3 W2 H2 v1 v2 v _ G2 (r1.up e2) r2 (rv.up (e1.trans e2)) fun W3 H3 e3 G3 => k σ W3 H3 ((e1.trans e2).trans e3) G3 (R.up ((e1.trans e2).trans e3))
theorem WL {i j : Nat} (b : SA K tA fa) : SS K (aBx i j tA) (AZ i j fa) := by
 intro γ M o M' hh W H σ D G R k
 obtain ⟨⟨ys, M1⟩, h1, hh⟩ := aH hh
 refine b _ _ _ _ h1 W H σ _ G R fun vs W1 H1 e1 G1 r1 => ?_
 rcases r1 with _ | ⟨a1, _ | ⟨a2, _ | _⟩⟩
 · cases hh
 · cases hh
 · cases hh
   exact ⟨_, _, rfl, k W1 H1 e1 G1 _ (RepS.set (RepS.set (R.up e1) i a1) j a2)⟩
 · cases hh
def BN (K : PySem.W.Frag) (J : It) (xs : List CD) (W : Wd) : Prop := ∀ W' M' H', W.Ext W' -> Good K W' M' H' ->
 (∀ i x, xs[i]? = some x -> J.go i H' /\ ∀ y H'', J.yld i H' y H'' -> ∃ W'', W'.Ext W'' /\ Good K W'' M' H'' /\ RepV K W'' x y) /\ J.stop xs.length H'
def SI (K : PySem.W.Frag) (wi : TI) (f : AF) : Prop := ∀ γ M xs M', f γ M = some (xs, M') -> ∀ (W : Wd) (H : Hp) (σ : St) (R : It -> Hp -> Prop), Good K W M H -> RepS K W γ σ -> (∀ J W' H', W.Ext W' -> Good K W' M' H' -> BN K J xs W' -> R J H') -> wi σ H R
def fG (f : EF) : AF := fun γ M => (f γ M).bind fun r => match r.1 with
 | .d x => (aY x).bind fun ds => some (ds.map .d, r.2)
 | _ => none
theorem aAi (a : SE K ta f) : SI K (aAL K ta) (fG f) := by
 intro γ M xs M' hh W H σ R G Rs k
 obtain ⟨⟨y, M1⟩, h1, hh⟩ := aH hh
 cases y with
 | c _ => cases hh
 | d y =>
  obtain ⟨ds, h2, hh⟩ := aH (show (aY y).bind _ = _ from hh)
  cases hh
  refine a _ _ _ _ h1 W H σ _ G Rs fun v W1 H1 e1 G1 r1 => ?_
  obtain ⟨p, vs, rfl, hs, hr⟩ := mM (show Rep K W1.F y v from r1) h2
  refine ⟨p, rfl, ?_⟩
  have item : ∀ (i : Nat) (x : CD) (W2 : Wd), W1.Ext W2 -> (ds.map CD.d)[i]? = some x -> ∃ u, vs[i]? = some u /\ RepV K W2 x u := fun i x W2 e2 hx => by
   obtain ⟨u, hu, ru⟩ := Paired.get (mF hr) hx
   exact ⟨u, hu, ru.up e2⟩
  have hlen : (ds.map CD.d).length = vs.length := by rw [List.length_map]; exact hr.length
  rcases hs with hs | hs
  · refine .inl ⟨vs, G1.fh.seq hs, k _ W1 H1 e1 G1 fun W2 M2 H2 e2 G2 => ?_⟩
    have hs2 : SqL K H2 p vs := G2.fh.seq (e2.ff.seq hs)
    refine ⟨fun i x hx => ?_, ?_⟩
    · obtain ⟨u, hu, ru⟩ := item i x W2 e2 hx
      refine ⟨⟨vs, u, hs2, hu⟩, fun y' H'' hy => ⟨W2, .refl _, by rw [hy.1]; exact G2, ?_⟩⟩
      have := hy.2 vs hs2
      rw [hu] at this
      cases this
      exact ru
    · rw [hlen]
      exact ⟨vs, hs2, Nat.le_refl _⟩
  · refine .inr ⟨vs, G1.fh.seqT hs, k _ W1 H1 e1 G1 fun W2 M2 H2 e2 G2 => ?_⟩
    have hs2 : SqT K H2 p vs := G2.fh.seqT (e2.ff.seqT hs)
    refine ⟨fun i x hx => ?_, ?_⟩
    · obtain ⟨u, hu, ru⟩ := item i x W2 e2 hx
      refine ⟨⟨vs, u, hs2, hu⟩, fun y' H'' hy => ⟨W2, .refl _, by rw [hy.1]; exact G2, ?_⟩⟩
      have := hy.2 vs hs2
      rw [hu] at this
      cases this
      exact ru
    · rw [hlen]
      exact ⟨vs, hs2, Nat.le_refl _⟩
def jI (lo : Int) (n : Nat) : List CD := (List.range n).map fun i => .d (.int (lo + (i : Nat)))
theorem zP {lo : Int} {n i : Nat} {x : CD} (h : (jI lo n)[i]? = some x) : i < n /\ x = .d (.int (lo + i)) := by
 unfold jI at h
 rw [List.getElem?_map] at h
 by_cases hi : i < n
 · rw [List.getElem?_range hi] at h
   exact ⟨hi, (Option.some.inj h).symm⟩
 · rw [List.getElem?_eq_none_iff.mpr (by simpa using hi)] at h
   cases h
def fR (i : Int) : Bool := decide (-(2 ^ 62) <= i) && decide (i < 2 ^ 62)
def kR (f : AF) : AF := fun γ M => (f γ M).bind fun r => match r.1 with
 | [.d (.int j)] => if fR j = true then some (jI 0 j.toNat, r.2) else none
 | _ => none
theorem FU {lo : Int} {n : Nat} {W : Wd} : BN K (Itr lo n) (jI lo n) W := fun W' M' H' e G =>
 ⟨fun i x hx => ⟨(zP hx).1, fun y H'' hy => ⟨W', .refl _, by rw [hy.1]; exact G, by rw [(zP hx).2]; exact hy.2⟩⟩, by show n <= _; simp [jI]⟩
theorem sM {i : Int} (h : fR i = true) : -(2 ^ 62) <= i /\ i < 2 ^ 62 := by
 unfold fR at h
 rw [Bool.and_eq_true] at h
 exact ⟨of_decide_eq_true h.1, of_decide_eq_true h.2⟩
theorem TV (b : SA K tA fa) : SI K (UR tA) (kR fa) := by
 intro γ M xs M' hh W H σ R G Rs k
 obtain ⟨⟨ys, M1⟩, h1, hh⟩ := aH hh
 refine b _ _ _ _ h1 W H σ _ G Rs fun vs W1 H1 e1 G1 r1 => ?_
 revert hh
 dsimp only
 split
 · rename_i j
   intro hh
   by_cases hs : fR j = true
   · rw [if_pos hs] at hh
     cases hh
     cases r1 with
     | cons r r' =>
      cases r'
      exact ⟨j, by rw [show _ = V.int j from r], (sM hs).1, (sM hs).2, k _ W1 H1 e1 G1 FU⟩
   · rw [if_neg hs] at hh; cases hh
 · intro hh; cases hh
theorem ZV {wi : TI} (i : SI K wi fa) (a : SG K tg hg) (b : SS K t p) : SS K (XU wi tg t) (pB fa hg p) := by
 intro γ M o M' hh W H σ D G R k
 obtain ⟨⟨xs, M1⟩, h1, hh⟩ := aH hh
 have hh : jE hg p xs γ M1 = some (o, M') := hh
 refine i _ _ _ _ h1 W H σ _ G R fun J W1 H1 e1 G1 gv => ?_
 refine ⟨fun j m σ' H' => ∃ γ' M2 W2, j <= xs.length /\ m = xs.length - j /\ W1.Ext W2 /\ Good K W2 M2 H' /\ RepS K W2 γ' σ' /\ jE hg p (xs.drop j) γ' M2 = some (o, M'), ⟨_, γ, M1, W1, Nat.zero_le _, rfl, .refl _, G1, R.up e1, hh⟩, ?_⟩
 rintro j m σ' H' ⟨γ', M2, W2, hj, rfl, e2, G2, R2, h2⟩
 obtain ⟨gv1, gv2⟩ := gv W2 M2 H' e2 G2
 by_cases hlt : j < xs.length
 · obtain ⟨go, yl⟩ := gv1 j xs[j] (List.getElem?_eq_getElem hlt)
   rw [List.drop_eq_getElem_cons hlt] at h2
   refine .inr ⟨go, fun σ3 H3 => ∃ γ3 M3 W3, W2.Ext W3 /\ Good K W3 M3 H3 /\ RepS K W3 γ3 σ3 /\ jE hg p (xs.drop (j + 1)) γ3 M3 = some (o, M'), ?_, fun y H3 hy => ?_⟩
   · rintro σ3 H3 ⟨γ3, M3, W3, e3, G3, R3, h3⟩
     exact ⟨_, by omega, γ3, M3, W3, hlt, rfl, e2.trans e3, G3, R3, h3⟩
   · obtain ⟨W8, e8, G8, ry⟩ := yl y H3 hy
     obtain ⟨⟨γ4, M4⟩, h4, h2⟩ := aH (show (hg xs[j] γ' M2).bind _ = _ from h2)
     obtain ⟨⟨o5, M5⟩, h5, h2⟩ := aH h2
     refine a _ _ _ _ _ h4 W8 _ σ' y _ G8 (R2.up e8) ry fun σ4 W4 H4 e4 G4 R4 => ?_
     refine b _ _ _ _ h5 W4 H4 σ4 _ G4 R4 fun W5 H5 e5 G5 => ?_
     have e25 := (e8.trans e4).trans e5
     cases o5 with
     | nx γ5 => exact fun σ5 R5 => ⟨γ5, M5, W5, e25, G5, R5, h2⟩
     | ct γ5 => exact fun σ5 R5 => ⟨γ5, M5, W5, e25, G5, R5, h2⟩
     | bk γ5 => cases h2; exact k W5 H5 ((e1.trans e2).trans e25) G5
     | rt x => cases h2; exact k W5 H5 ((e1.trans e2).trans e25) G5
 · have e : j = xs.length := by omega
   subst e
   rw [List.drop_length] at h2
   cases h2
   exact .inl ⟨gv2, k W2 H' (e1.trans e2) G2 σ' R2⟩
theorem NA (c : STt K tt ft) (b : SS K t p) : SS K (KD tt t) (nR ft p) := by
 intro γ M o M' hh W H σ D G R k
 unfold nR at hh
 by_cases hex : ∃ n, (eV ft p n γ M).isSome = true
 · rw [dif_pos hex] at hh
   generalize hex.choose = n at hh
   refine ⟨fun m σ' H' => ∃ γ' M2 W2, W.Ext W2 /\ Good K W2 M2 H' /\ RepS K W2 γ' σ' /\ eV ft p m γ' M2 = some (o, M'), ⟨n, γ, M, W, .refl _, G, R, hh⟩, ?_⟩
   rintro m σ' H' ⟨γ', M2, W2, e2, G2, R2, h2⟩
   cases m with
   | zero => cases h2
   | succ m =>
    obtain ⟨⟨c3, M3⟩, h3, h2⟩ := aH (show (ft γ' M2).bind _ = _ from h2)
    refine c _ _ _ _ h3 W2 H' σ' _ G2 R2 fun W3 H3 e3 G3 => ?_
    cases c3 with
    | true =>
     rw [if_pos rfl]; rw [if_pos rfl] at h2
     obtain ⟨⟨o4, M4⟩, h4, h2⟩ := aH h2
     refine ⟨fun σ4 H4 => ∃ γ4 M4 W4, W2.Ext W4 /\ Good K W4 M4 H4 /\ RepS K W4 γ4 σ4 /\ eV ft p m γ4 M4 = some (o, M'), ?_, ?_⟩
     · rintro σ4 H4 ⟨γ4, M4, W4, e4, G4, R4, h4⟩
       exact ⟨m, Nat.lt_succ_self _, γ4, M4, W4, e2.trans e4, G4, R4, h4⟩
     · refine b _ _ _ _ h4 W3 H3 σ' _ G3 (R2.up e3) fun W5 H5 e5 G5 => ?_
       have e25 := e3.trans e5
       cases o4 with
       | nx γ5 => exact fun σ5 R5 => ⟨γ5, M4, W5, e25, G5, R5, h2⟩
       | ct γ5 => exact fun σ5 R5 => ⟨γ5, M4, W5, e25, G5, R5, h2⟩
       | bk γ5 => cases h2; exact k W5 H5 (e2.trans e25) G5
       | rt x => cases h2; exact k W5 H5 (e2.trans e25) G5
    | false =>
     rw [if_neg Bool.false_ne_true]; rw [if_neg Bool.false_ne_true] at h2
     cases h2
     exact k W3 H3 (e2.trans e3) G3 σ' (R2.up e3)
 · rw [dif_neg hex] at hh; cases hh
theorem iU {c : TF} {b : SF} : ∀ {n m : Nat} {γ : Ga} {M : Sto} {r : Out × Sto}, eV c b n γ M = some r -> n <= m -> eV c b m γ M = some r
 | 0, _, _, _, _, h, _ => by cases h
 | n + 1, 0, _, _, _, _, h => by omega
 | n + 1, m + 1, γ, M, r, h, hl => by
  obtain ⟨⟨b1, M1⟩, h1, h⟩ := aH (show (c γ M).bind _ = _ from h)
  show (c γ M).bind _ = _
  rw [h1]
  show (if b1 = true then _ else _) = _
  cases b1 with
  | false => exact h
  | true =>
   rw [if_pos rfl]; rw [if_pos rfl] at h
   obtain ⟨⟨o, M2⟩, h2, h⟩ := aH h
   rw [h2]
   cases o with
   | nx γ' => exact iU (n := n) (m := m) h (by omega)
   | ct γ' => exact iU (n := n) (m := m) h (by omega)
   | bk γ' => exact h
   | rt x => exact h
theorem yZ {c : TF} {b : SF} {n : Nat} {γ : Ga} {M : Sto} {r : Out × Sto} (h : eV c b n γ M = some r) : nR c b γ M = some r := by
 unfold nR
 have hex : ∃ n, (eV c b n γ M).isSome = true := ⟨n, by rw [h]; rfl⟩
 rw [dif_pos hex]
 have hs := hex.choose_spec
 cases q : eV c b hex.choose γ M with
 | none => rw [q] at hs; cases hs
 | some r' =>
  rcases Nat.le_total n hex.choose with z | z
  · rw [iU h z] at q; exact q.symm ▸ rfl
  · rw [iU q z] at h; exact h
theorem wR {W : Wd} {γ : Ga} {σ : St} (R : RepS K W γ σ) : ∀ cap : List (Option Nat), RepS K W (yP cap γ) (rK cap σ)
 | [] => .nil
 | none :: r => .cons True.intro (wR R r)
 | some j :: r => by
  refine .cons ?_ (wR R r)
  show BM K W ((γ[j]?).join) ((σ[j]?).join)
  cases e : γ[j]? with
  | none =>
   have : σ[j]? = none := by
    have hl := Paired.len R
    exact List.getElem?_eq_none_iff.mpr (by have := List.getElem?_eq_none_iff.mp e; omega)
   rw [this]
   exact True.intro
  | some x =>
   obtain ⟨y, hy, r'⟩ := Paired.get R e
   rw [hy]
   exact r'
theorem ZW {wi : TI} {cap : List (Option Nat)} {te : TE} {fe : EF} (i : SI K wi fa) (a : SG K tg hg) (c : STt K tt ft) (b : SE K te fe) {γ : Ga} {M : Sto} {xs : List CD} {M' : Sto} (hh : nF cap fa hg ft fe γ M = some (xs, M'))
 {W : Wd} {H : Hp} {σ : St} {Q : VK} (G : Good K W M H) (R : RepS K W γ σ) (k : ∀ vs W' H', W.Ext W' -> Good K W' M' H' -> RepVs K W' xs vs -> ∀ p, H' p = none -> Q (.ref p) (upd H' p (.lst vs))) : tLc cap wi tg tt te σ H Q := by
 obtain ⟨⟨ys, M1⟩, h1, hh⟩ := aH hh
 have hh : (if ys.length <= sizeLine then lcF hg ft fe ys (yP cap γ) M1 else none) = some (xs, M') := hh
 by_cases hl : ys.length <= sizeLine
 · rw [if_pos hl] at hh
   refine i _ _ _ _ h1 W H σ _ G R fun J W1 H1 e1 G1 gv => ?_
   refine ⟨fun j m acc σ' H' => ∃ γ' M2 W2 pre suf, j <= ys.length /\ m = ys.length - j /\ acc.length <= j /\ W1.Ext W2 /\ Good K W2 M2 H' /\ RepS K W2 γ' σ' /\ RepVs K W2 pre acc /\ pre ++ suf = xs /\ lcF hg ft fe (ys.drop j) γ' M2 = some (suf, M'),
    ⟨_, yP cap γ, M1, W1, [], xs, Nat.zero_le _, rfl, Nat.zero_le _, .refl _, G1, wR (R.up e1) cap, .nil, rfl, hh⟩, ?_⟩
   rintro j m acc σ' H' ⟨γ', M2, W2, pre, suf, hj, rfl, hacc, e2, G2, R2, rp, hx, h2⟩
   obtain ⟨gv1, gv2⟩ := gv W2 M2 H' e2 G2
   by_cases hlt : j < ys.length
   · obtain ⟨go, yl⟩ := gv1 j ys[j] (List.getElem?_eq_getElem hlt)
     rw [List.drop_eq_getElem_cons hlt] at h2
     refine .inr ⟨go, by omega, fun acc3 σ3 H3 => ∃ γ3 M3 W3 pre3 suf3, acc3.length <= j + 1 /\ W2.Ext W3 /\ Good K W3 M3 H3 /\ RepS K W3 γ3 σ3 /\ RepVs K W3 pre3 acc3 /\ pre3 ++ suf3 = xs /\ lcF hg ft fe (ys.drop (j + 1)) γ3 M3 = some (suf3, M'), ?_, fun y H3 hy => ?_⟩
     · rintro acc3 σ3 H3 ⟨γ3, M3, W3, pre3, suf3, hl3, e3, G3, R3, rp3, hx3, h3⟩
       exact ⟨_, by omega, γ3, M3, W3, pre3, suf3, hlt, rfl, hl3, e2.trans e3, G3, R3, rp3, hx3, h3⟩
     · obtain ⟨W8, e8, G8, ry⟩ := yl y H3 hy
       obtain ⟨⟨γ4, M4⟩, h4, h2⟩ := aH (show (hg ys[j] γ' M2).bind _ = _ from h2)
       obtain ⟨⟨b5, M5⟩, h5, h2⟩ := aH h2
       refine a _ _ _ _ _ h4 W8 _ σ' y _ G8 (R2.up e8) ry fun σ4 W4 H4 e4 G4 R4 => ?_
       refine c _ _ _ _ h5 W4 H4 σ4 _ G4 R4 fun W5 H5 e5 G5 => ?_
       have e25 := (e8.trans e4).trans e5
       cases b5 with
       | true =>
        rw [if_pos rfl] at h2
        obtain ⟨⟨z, M6⟩, h6, h2⟩ := aH h2
        obtain ⟨⟨zs, M7⟩, h7, h2⟩ := aH h2
        cases h2
        refine .inl ⟨rfl, b _ _ _ _ h6 W5 H5 σ4 _ G5 (R4.up e5) fun v W6 H6 e6 G6 r6 => ?_⟩
        refine ⟨γ4, M6, W6, pre ++ [z], zs, by rw [List.length_append]; simp only [List.length_singleton]; omega, e25.trans e6, G6, R4.up (e5.trans e6), Paired.app (RepVs.up rp (e25.trans e6)) (.cons r6 .nil), by rw [<- hx, List.append_assoc]; rfl, h7⟩
       | false =>
        rw [if_neg Bool.false_ne_true] at h2
        exact .inr ⟨rfl, γ4, M5, W5, pre, suf, by omega, e25, G5, R4.up e5, RepVs.up rp e25, hx, h2⟩
   · have e : j = ys.length := by omega
     subst e
     rw [List.drop_length] at h2
     cases h2
     rw [List.append_nil] at hx
     subst hx
     exact .inl ⟨gv2, k acc W2 H' (e1.trans e2) G2 rp⟩
 · rw [if_neg hl] at hh; cases hh
theorem VW {wi : TI} {cap : List (Option Nat)} {te : TE} {fe : EF} (i : SI K wi fa) (a : SG K tg hg) (c : STt K tt ft) (b : SE K te fe) : SE K (tLc cap wi tg tt te) (fLc cap fa hg ft fe) := by
 intro γ M x M' hh W H σ Q G R k
 obtain ⟨⟨ys, M1⟩, h1, hh⟩ := aH hh
 obtain ⟨ds, h2, hh⟩ := aH hh
 by_cases hl : ds.length <= sizeLine
 · rw [if_pos hl] at hh
   cases hh
   refine ZW i a c b h1 G R fun vs W1 H1 e1 G1 r1 p hp => ?_
   obtain ⟨e2, G2⟩ := G1.lay (o := .lst vs) hp
   exact k _ _ _ (e1.trans e2) G2 ⟨p, vs, rfl, SqL.of aT, RepAll.same e2.ff _ _ (fI h2 r1)⟩
 · rw [if_neg hl] at hh; cases hh
theorem YU : STt K aCp nU := by
 intro γ M x M' hh W H σ Q G R k
 cases hh
 exact k W H (.refl _) G
theorem RepVs.some {W : Wd} : ∀ {xs : List CD} {vs : List V}, RepVs K W xs vs -> RepS K W (xs.map some) (vs.map some)
 | _, _, .nil => .nil
 | _, _, .cons r t => .cons r (RepVs.some t)
theorem mH {W : Wd} : ∀ n : Nat, RepS K W (List.replicate n none) (List.replicate n none)
 | 0 => .nil
 | n + 1 => .cons True.intro (mH n)
theorem Def.okM {P : Program} {w : World} {mg : Str -> Option Value} {base : Heap} {x : Str} {st : Stmt} {N ps : List Str} {k : Nat} {b : SF} {q : Bool} (D : Def K mg x st) (S : aS N ps (aG st))
 (hb : ∀ (kV doc pm : Value) (an : Option Addr) (cdv ct : Value) (us : List Value), us.length = ps.length -> bindArgs (PySem.W.fnOf x x (cW st) (bI st) (aG st) .none kV doc pm an cdv ct) ⟨us, []⟩ = pure (ps.zip us))
 (hbody : ∀ (f : Addr) (cdv : Value) (A : Around) (outer : List Env) (s : Shared) (H : Hp) (E : XK), Room k (A.deeper (envOfC x (aG st) s.heap.objs.size f cdv)) q ->
  ∃ t, PSs (jB CX0 P w K mg base N x (aG st) f cdv A outer s H E q).nox (bI st) t /\ SS K t b) : Callee P w K mg base (k + 1) x ps (spM K (fnF ps.length N.length b)) q := by
 have len : ∀ vs H Q E, spM K (fnF ps.length N.length b) vs H Q E -> vs.length = ps.length := fun vs H Q E h => by
  obtain ⟨xs, M, W, y, M', G, R, hf, _⟩ := h
  by_cases hl : xs.length = ps.length
  · rw [<- Paired.len R]; exact hl
  · unfold fnF at hf
    rw [if_neg hl] at hf; cases hf
 refine D.ok S hb len fun f cdv A outer s H vs Q E hr h => ?_
 obtain ⟨t, hP, hS⟩ := hbody f cdv A outer s H E hr
 refine ⟨t, hP, ?_⟩
 obtain ⟨xs, M, W, y, M', G, R, hf, k⟩ := h
 by_cases hl : xs.length = ps.length
 · unfold fnF at hf
   rw [if_pos hl] at hf
   obtain ⟨⟨o, M1⟩, h1, hf⟩ := aH hf
   have hR : RepS K W (xs.map some ++ List.replicate (N.length - xs.length) none) (start N vs) := by
    unfold start
    rw [<- Paired.len R]
    exact Paired.app (RepVs.some R) (mH _)
   refine hS _ _ _ _ h1 W H _ _ G hR fun W1 H1 e1 G1 => ?_
   cases o with
   | rt x => cases hf; exact fun v r => k v W1 H1 e1 G1 r
   | nx γ => cases hf; exact fun σ r => k .non W1 H1 e1 G1 rfl
   | bk γ => cases hf
   | ct γ => cases hf
 · unfold fnF at hf
   rw [if_neg hl] at hf; cases hf
end
end L2
end
section
set_option Elab.async false
set_option linter.all false
set_option maxRecDepth 100000
set_option maxHeartbeats 4000000
namespace L2
open PySem PySem.Spec PyProof.Rows
def CO (h h' : F2) : F2 := fun x y M => match h x y M with
 | some r => some r
 | none => h' x y M
def pI (g : Int -> Int -> Option PyData) : F2 := fun x y M => match x, y with
 | .d (.int i), .d (.int j) => (g i j).bind fun z => some (.d z, M)
 | _, _ => none
theorem LL {g : Int -> Int -> Option PyData} {x y : CD} {M : Sto} {z : CD} {M' : Sto} (h : pI g x y M = some (z, M')) : ∃ i j w, x = .d (.int i) /\ y = .d (.int j) /\ g i j = some w /\ z = .d w /\ M' = M := by
 unfold pI at h
 split at h
 · rename_i i j
   obtain ⟨w, h1, h⟩ := aH h
   cases h
   exact ⟨i, j, w, rfl, rfl, h1, rfl, rfl⟩
 · cases h
section
variable {X : Cx} {K : PySem.W.Frag}
theorem UT {g : Int -> Int -> Int} : P2 K (rI0 fun i j => .int (g i j)) (pI fun i j => some (.int (g i j))) := by
 intro x y M z M' h W H v u Q G rx ry k
 obtain ⟨i, j, w, rfl, rfl, hw, rfl, rfl⟩ := LL h
 cases hw
 exact ⟨i, j, rx, ry, k _ W H (.refl _) G rfl⟩
theorem DL {g : Int -> Int -> Bool} : P2 K (rI0 fun i j => .bl (g i j)) (pI fun i j => some (.bool (g i j))) := by
 intro x y M z M' h W H v u Q G rx ry k
 obtain ⟨i, j, w, rfl, rfl, hw, rfl, rfl⟩ := LL h
 cases hw
 exact ⟨i, j, rx, ry, k _ W H (.refl _) G rfl⟩
def ifS (c : Bool) (x : PyData) : Option PyData := if c = true then some x else none
theorem XH {c : Bool} {x y : PyData} (h : ifS c x = some y) : c = true /\ y = x := by
 unfold ifS at h
 cases c with
 | true => rw [if_pos rfl] at h; cases h; exact ⟨rfl, rfl⟩
 | false => rw [if_neg Bool.false_ne_true] at h; cases h
theorem RZ {C : Int -> Int -> Prop} {c : Int -> Int -> Bool} {g : Int -> Int -> Int} (hc : ∀ i j, c i j = true -> C i j) : P2 K (rI C fun i j => .int (g i j)) (pI fun i j => ifS (c i j) (.int (g i j))) := by
 intro x y M z M' h W H v u Q G rx ry k
 obtain ⟨i, j, w, rfl, rfl, hw, rfl, rfl⟩ := LL h
 obtain ⟨h1, rfl⟩ := XH hw
 exact ⟨i, j, rx, ry, hc i j h1, k _ W H (.refl _) G rfl⟩
def aAV : F2 := pI fun i j => some (.int (i + j))
def rE : F2 := pI fun i j => some (.int (i - j))
def lT (i j : Int) : Bool := decide (i.natAbs < 2 ^ 64) || decide (j.natAbs < 2 ^ 64) || (decide (i.natAbs < lK) && decide (j.natAbs < lK))
def AG : F2 := pI fun i j => ifS (lT i j) (.int (i * j))
def vN (_ j : Int) : Bool := decide (0 < j) && decide (j.natAbs < lK)
def vE : F2 := pI fun i j => ifS (vN i j) (.int (i / j))
def nA (_ j : Int) : Bool := decide (0 < j)
def mR : F2 := pI fun i j => ifS (nA i j) (.int (i % j))
def qK (i j : Int) : Bool := decide (0 <= j) && decide (j <= 1000000) && decide (i.natAbs < 2 ^ 64)
def pO : F2 := pI fun i j => ifS (qK i j) (.int (i ^ j.toNat))
theorem mulOk_of {i j : Int} (h : lT i j = true) : CMulA i j := by
 unfold lT at h
 simp only [Bool.or_eq_true, Bool.and_eq_true, decide_eq_true_eq] at h
 rcases h with (h | h) | h
 · exact .inl (.inl ⟨by omega, by omega⟩)
 · exact .inl (.inr ⟨by omega, by omega⟩)
 · exact .inr h
def ltI : F2 := pI fun i j => some (.bool (decide (i < j)))
def leI : F2 := pI fun i j => some (.bool (decide (i <= j)))
def gtI : F2 := pI fun i j => some (.bool (decide (j < i)))
def geI : F2 := pI fun i j => some (.bool (decide (j <= i)))
def eqD (neg : Bool) : F2 := fun x y M => match x, y with
 | .d a, .d b => if (SeqAt.shaped a && SeqAt.shaped b) = true then some (.d (.bool (if neg then !PyData.eqv a b else PyData.eqv a b)), M) else none
 | _, _ => none
theorem UU {neg : Bool} : P2 K (NU K neg) (eqD neg) := by
 intro x y M z M' h W H v u Q G rx ry k
 unfold eqD at h
 split at h
 · rename_i a b
   by_cases hs : (SeqAt.shaped a && SeqAt.shaped b) = true
   · rw [if_pos hs] at h
     cases h
     rw [Bool.and_eq_true] at hs
     exact ⟨a, b, Rep.same G.fh _ _ rx, Rep.same G.fh _ _ ry, hs.1, hs.2, k _ W H (.refl _) G rfl⟩
   · rw [if_neg hs] at h; cases h
 · cases h
theorem RepAll.nth {H : Hp} {ds : List PyData} {vs : List V} {i : Nat} {d : PyData} (h : RepAll K H ds vs) (e : ds[i]? = some d) : ∃ v, vs[i]? = some v /\ Rep K H d v := by
 have hlt : i < vs.length := by rw [<- h.length]; exact (List.getElem?_eq_some_iff.mp e).1
 have hv : vs[i]? = some vs[i] := List.getElem?_eq_getElem hlt
 obtain ⟨d', hd', r⟩ := h.get hv
 rw [e] at hd'
 cases hd'
 exact ⟨_, hv, r⟩
theorem IR {α : Type} {xs : List α} {i : Int} {x : α} (h : atI xs i = some x) : ∃ j, ixN xs.length i = some j /\ xs[j]? = some x := by
 unfold atI at h
 exact aH h
theorem DD {α : Type} {xs : List α} {i : Int} {j : Nat} {x : α} (h : ixN xs.length i = some j) (e : xs[j]? = some x) : atI xs i = some x := by
 unfold atI
 rw [h]
 exact e
def ixF : F2 := fun x y M => match x, y with
 | .d a, .d (.int n) => (aY a).bind fun ds => (atI ds n).bind fun e => some (.d e, M)
 | .c i, .d (.int n) => match M[i]? with
  | some (.lst xs) => (atI xs n).bind fun e => some (e, M)
  | _ => none
 | _, _ => none
theorem Good.lstAt {W : Wd} {M : Sto} {H : Hp} {i : Nat} {xs : List CD} (G : Good K W M H) (h : M[i]? = some (.lst xs)) : ∃ vs, H (W.α i) = some (.lst vs) /\ RepVs K W xs vs := by
 obtain ⟨_, o, h2, h3⟩ := G.cs i _ h (by intro z; cases z)
 cases o with
 | lst vs => exact ⟨vs, h2, h3⟩
 | _ => exact False.elim h3
theorem aBJ : P2 K (rIx K) ixF := by
 intro x y M z M' h W H v u Q G rx ry k
 unfold ixF at h
 split at h
 · rename_i a n
   obtain ⟨ds, h1, h⟩ := aH h
   obtain ⟨e, h2, h⟩ := aH h
   cases h
   obtain ⟨p, vs, rfl, hq, hr⟩ := mM (Rep.same G.fh _ _ rx) h1
   obtain ⟨j, hj, he⟩ := IR h2
   obtain ⟨w, hw, rw'⟩ := hr.nth he
   have hlen := hr.length
   have hat : atI vs n = some w := DD (by rw [<- hlen]; exact hj) hw
   obtain ⟨p', vs', e', hq', hr'⟩ := mM (show Rep K W.F a (.ref p) from rx) h1
   cases e'
   have same : ∀ w', vs'[j]? = some w' -> Rep K W.F e w' := fun w' hw' => by
    obtain ⟨w2, h3, h4⟩ := hr'.nth he
    rw [hw'] at h3
    cases h3
    exact h4
   obtain ⟨w', hw', r'⟩ := hr'.nth he
   have hat' : atI vs' n = some w' := DD (by rw [<- hr'.length]; exact hj) hw'
   rcases hq' with hq' | hq'
   · exact .inl ⟨p, vs', n, w', rfl, ry, G.fh.seq hq', hat', k _ W H (.refl _) G r'⟩
   · exact .inr (.inl ⟨p, vs', n, w', rfl, ry, G.fh.seqT hq', hat', k _ W H (.refl _) G r'⟩)
 · rename_i i n
   split at h
   · rename_i xs hx
     obtain ⟨e, h2, h⟩ := aH h
     cases h
     obtain ⟨vs, hv, hr⟩ := G.lstAt hx
     obtain ⟨j, hj, he⟩ := IR h2
     obtain ⟨w, hw, r'⟩ := Paired.get hr he
     have hat : atI vs n = some w := DD (by rw [<- Paired.len hr]; exact hj) hw
     rw [show v = .ref (W.α i) from rx.2]
     exact .inl ⟨_, vs, n, w, rfl, ry, SqL.of hv, hat, k _ W H (.refl _) G r'⟩
   · cases h
 · cases h
def gN : FN := fun xs M => match xs with
 | [.d a] => (aY a).bind fun ds => some (.d (.int ds.length), M)
 | [.c i] => match M[i]? with
  | some (.lst ys) => some (.d (.int ys.length), M)
  | _ => none
 | _ => none
theorem WT : PN K (fun xs H Q => ∃ p ys, xs = [.ref p] /\ (SqL K H p ys \/ SqT K H p ys) /\ Q (.int ys.length) H) gN := by
 intro xs M z M' h W H vs Q G r k
 unfold gN at h
 split at h
 · rename_i a
   obtain ⟨ds, h1, h⟩ := aH h
   cases h
   rcases r with _ | ⟨r1, _ | _⟩
   obtain ⟨p, us, rfl, hq, hr⟩ := mM (Rep.same G.fh _ _ r1) h1
   refine ⟨p, us, rfl, hq, ?_⟩
   rw [<- hr.length]
   exact k _ W H (.refl _) G rfl
 · rename_i i
   split at h
   · rename_i ys hy
     cases h
     rcases r with _ | ⟨r1, _ | _⟩
     obtain ⟨us, hv, hr⟩ := G.lstAt hy
     rw [r1.2]
     refine ⟨_, us, rfl, .inl (SqL.of hv), ?_⟩
     rw [<- Paired.len hr]
     exact k _ W H (.refl _) G rfl
   · cases h
 · cases h
def fW : FN := fun xs M => match xs with
 | [.d (.list ds)] => some (.d (.tuple ds), M)
 | [.d (.tuple ds)] => some (.d (.tuple ds), M)
 | [.c i] => match M[i]? with
  | some (.lst ys) => (lO ys).bind fun ds => some (.d (.tuple ds), M)
  | _ => none
 | _ => none
theorem NW : PN K (fun xs H Q => ∃ p ys, xs = [.ref p] /\ ((SqL K H p ys /\ ∀ l, H l = none -> Q (.ref l) (upd H l (.tup ys))) \/ (SqT K H p ys /\ Q (.ref p) H))) fW := by
 intro xs M z M' h W H vs Q G r k
 unfold fW at h
 split at h
 · rename_i ds
   cases h
   rcases r with _ | ⟨r1, _ | _⟩
   obtain ⟨p, us, rfl, hq, hr⟩ := (show ∃ a us, _ = V.ref a /\ SqL K W.F a us /\ RepAll K W.F ds us from r1)
   refine ⟨p, us, rfl, .inl ⟨G.fh.seq hq, fun l hl => ?_⟩⟩
   obtain ⟨e2, G2⟩ := G.lay (o := .tup us) hl
   exact k _ _ _ e2 G2 ⟨l, us, rfl, SqT.of aT, RepAll.same e2.ff _ _ hr⟩
 · rename_i ds
   cases h
   rcases r with _ | ⟨r1, _ | _⟩
   obtain ⟨p, us, rfl, hq, hr⟩ := (show ∃ a us, _ = V.ref a /\ SqT K W.F a us /\ RepAll K W.F ds us from r1)
   exact ⟨p, us, rfl, .inr ⟨G.fh.seqT hq, k _ W H (.refl _) G ⟨p, us, rfl, hq, hr⟩⟩⟩
 · rename_i i
   split at h
   · rename_i ys hy
     obtain ⟨ds, h1, h⟩ := aH h
     cases h
     rcases r with _ | ⟨r1, _ | _⟩
     obtain ⟨us, hv, hr⟩ := G.lstAt hy
     rw [r1.2]
     refine ⟨_, us, rfl, .inl ⟨SqL.of hv, fun l hl => ?_⟩⟩
     obtain ⟨e2, G2⟩ := G.lay (o := .tup us) hl
     exact k _ _ _ e2 G2 ⟨l, us, rfl, SqT.of aT, RepAll.same e2.ff _ _ (fI h1 hr)⟩
   · cases h
 · cases h
def rF (T : String) (f : EF) : EF := fun γ M => (f γ M).bind fun r => match r.1 with
 | .d a => some (.d (.bool (oZ T a)), r.2)
 | _ => none
theorem YG {T : String} {ta : TE} {f : EF} (hT : T ∈ asked) (a : SE K ta f) : SE K (tCB (XY K) (mI ta (mI (tC (.ty T)) HN))) (rF T f) := by
 intro γ M x M' hh W H σ Q G R k
 obtain ⟨⟨y, M1⟩, h1, hh⟩ := aH hh
 cases y with
 | c _ => cases hh
 | d y =>
  cases hh
  refine a _ _ _ _ h1 W H σ _ G R fun v W1 H1 e1 G1 r1 => ?_
  exact ⟨v, T, y, rfl, hT, Rep.same G1.fh _ _ r1, k _ W1 H1 e1 G1 rfl⟩
def ES (T U : String) (f : EF) : EF := fun γ M => (f γ M).bind fun r => match r.1 with
 | .d a => some (.d (.bool (oZ T a || oZ U a)), r.2)
 | _ => none
theorem SR {T U : String} {ta : TE} {f : EF} (hT : T ∈ asked) (hU : U ∈ asked) (a : SE K ta f) : SE K (tCB (IT K) (mI ta (mI (JK (mI (tC (.ty T)) (mI (tC (.ty U)) HN))) HN))) (ES T U f) := by
 intro γ M x M' hh W H σ Q G R k
 obtain ⟨⟨y, M1⟩, h1, hh⟩ := aH hh
 cases y with
 | c _ => cases hh
 | d y =>
  cases hh
  refine a _ _ _ _ h1 W H σ _ G R fun v W1 H1 e1 G1 r1 => ?_
  refine ⟨by show 2 <= sizeLine; decide, fun p hp => ?_⟩
  obtain ⟨e2, G2⟩ := G1.lay (o := .tup [.ty T, .ty U]) hp
  refine ⟨v, p, [T, U], y, rfl, aT, fun S hS => ?_, Rep.same (e2.ff.trans G2.fh) _ _ r1, ?_⟩
  · rcases List.mem_cons.mp hS with rfl | hS
    · exact hT
    · rw [List.mem_singleton.mp hS]; exact hU
  · have e : ([T, U].any fun T => oZ T y) = (oZ T y || oZ U y) := by simp
    rw [e]
    exact k _ _ _ (e1.trans e2) G2 rfl
def PP (M : Sto) : CD -> Option Bool
 | .d .none => some false
 | .d (.bool b) => some b
 | .d (.int i) => some (i != 0)
 | .d (.list ds) => some (!ds.isEmpty)
 | .d (.tuple ds) => some (!ds.isEmpty)
 | .c i => match M[i]? with
  | some (.lst xs) => some (!xs.isEmpty)
  | some (.dk kvs) => some (!kvs.isEmpty)
  | _ => none
 | _ => none
def BP (f : EF) : TF := fun γ M => (f γ M).bind fun r => (PP r.2 r.1).bind fun b => some (b, r.2)
theorem iW {α β : Type} {xs : List α} {ys : List β} (h : xs.length = ys.length) : xs.isEmpty = ys.isEmpty := by
 cases xs <;> cases ys <;> simp at h ⊢
theorem aBh {ta : TE} {f : EF} (a : SE K ta f) : STt K (fun σ H Q => ta σ H fun x H' => ∃ k, TQ K x H' k /\ Q k H') (BP f) := by
 intro γ M b M' hh W H σ Q G R k
 obtain ⟨⟨y, M1⟩, h1, hh⟩ := aH hh
 obtain ⟨b1, h2, hh⟩ := aH hh
 cases hh
 refine a _ _ _ _ h1 W H σ _ G R fun v W1 H1 e1 G1 r1 => ⟨_, ?_, k W1 H1 e1 G1⟩
 cases y with
 | d y =>
  cases y with
  | none => cases h2; rw [show v = .non from r1]; rfl
  | bool c => cases h2; rw [show v = .bl _ from r1]; rfl
  | int i => cases h2; rw [show v = .int _ from r1]; rfl
  | str x => cases h2
  | list ds =>
   cases h2
   obtain ⟨p, us, rfl, hq, hr⟩ := (show ∃ a us, _ = V.ref a /\ SqL K W1.F a us /\ RepAll K W1.F ds us from r1)
   exact .inl ⟨us, G1.fh.seq hq, by rw [iW hr.length]⟩
  | tuple ds =>
   cases h2
   obtain ⟨p, us, rfl, hq, hr⟩ := (show ∃ a us, _ = V.ref a /\ SqT K W1.F a us /\ RepAll K W1.F ds us from r1)
   exact .inr (.inl ⟨us, G1.fh.seqT hq, by rw [iW hr.length]⟩)
  | dict kvs => cases h2
 | c i =>
  rw [r1.2]
  unfold PP at h2
  dsimp only at h2
  split at h2
  · rename_i xs hx
    cases h2
    obtain ⟨us, hv, hr⟩ := G1.lstAt hx
    exact .inl ⟨us, SqL.of hv, by rw [iW (Paired.len hr)]⟩
  · rename_i kvs hx
    cases h2
    obtain ⟨_, o, g2, g3⟩ := G1.cs i _ hx (by intro z; cases z)
    cases o with
    | dK us => exact .inr (.inr ⟨us, g2, by rw [iW (Paired.len g3)]⟩)
    | _ => exact False.elim g3
  · cases h2
def boolsOf : List PyData -> Option (List Bool)
 | [] => some []
 | .bool b :: r => (boolsOf r).bind fun bs => some (b :: bs)
 | _ :: _ => none
def DA : FN := fun xs M => match xs with
 | [.d (.list ds)] => (boolsOf ds).bind fun bs => some (.d (.bool (bs.all id)), M)
 | _ => none
theorem vJ {H : Hp} : ∀ {ds : List PyData} {bs : List Bool} {vs : List V}, boolsOf ds = some bs -> RepAll K H ds vs -> vs = bs.map V.bl
 | [], bs, vs, e, h => by cases e; exact h
 | .bool b :: r, bs, vs, e, h => by
  obtain ⟨cs, h1, e⟩ := aH (show (boolsOf r).bind _ = _ from e)
  cases e
  obtain ⟨v, us, rfl, h2, h3⟩ := h
  rw [show v = V.bl b from h2, vJ h1 h3]
  rfl
 | .none :: _, _, _, e, _ => by cases e
 | .int _ :: _, _, _, e, _ => by cases e
 | .str _ :: _, _, _, e, _ => by cases e
 | .list _ :: _, _, _, e, _ => by cases e
 | .tuple _ :: _, _, _, e, _ => by cases e
 | .dict _ :: _, _, _, e, _ => by cases e
theorem GG (hc : X.calm = true) : gV X (.builtin "all") (fun xs H Q => ∃ (p : Addr) (bs : List Bool), xs = [.ref p] /\ SqL X.K H p (bs.map V.bl) /\ Q (.bl (bs.all id)) H) := by
 intro pins s σ H xs us Q I r h
 obtain ⟨p, bs, rfl, hp, q⟩ := h
 obtain ⟨u, rfl, ru⟩ := vals1 r
 cases (show u = Value.ref p from ru)
 obtain ⟨its, rv, pl, hz⟩ := I.list hp
 have hits := Vals.bools rv
 subst hits
 refine call_all_walk (wpAny_pyIter_list pl.isList ?_)
 have hlt : p < s.heap.objs.size := pl.lt
 refine ⟨_, _, _, _, _, _, (fun i => bs.getD i false), rfl, Walks.list (A := X.A.in1) (I.ok.hd hc) s.heap.objs.size p (Nat.ne_of_lt hlt) (bs.map Value.bool).toArray, ⟨⟨_, Heap.get?_push_size _ rfl, rfl, rfl⟩, pl.isList.at fun o e => Heap.get?_push_of_some _ e⟩, zO, fun h' tk hk => ?_⟩
 have e1 : ((bs.map Value.bool).toArray).size = bs.length := by simp
 rw [e1, all_range]
 refine ⟨.bl _, H, I.kept (h' := h') (t' := tk) fun b o e => ?_, rfl, q⟩
 exact hk b o (fun z => by rw [List.mem_singleton] at z; exact absurd (Heap.lt_size e) (by rw [z]; exact Nat.lt_irrefl _)) (Heap.get?_push_of_some _ e)
theorem aAg : PN K (fun xs H Q => ∃ (p : Addr) (bs : List Bool), xs = [.ref p] /\ SqL K H p (bs.map V.bl) /\ Q (.bl (bs.all id)) H) DA := by
 intro xs M z M' h W H vs Q G r k
 unfold DA at h
 split at h
 · rename_i ds
   obtain ⟨bs, h1, h⟩ := aH h
   cases h
   rcases r with _ | ⟨r1, _ | _⟩
   obtain ⟨p, us, rfl, hq, hr⟩ := (show ∃ a us, _ = V.ref a /\ SqL K W.F a us /\ RepAll K W.F ds us from r1)
   have e := vJ h1 hr
   subst e
   exact ⟨p, bs, rfl, G.fh.seq hq, k _ W H (.refl _) G rfl⟩
 · cases h
def yD : F3 := fun x y z M => match x, y with
 | .c i, .d (.int k) => match M[i]? with
  | some (.lst xs) => (ixN xs.length k).bind fun j => some (M.set i (.lst (xs.set j z)))
  | _ => none
 | _, _ => none
theorem WV : P3 K VC yD := by
 intro x y z M M' h W H v u w Q G rx ry rz k
 unfold yD at h
 split at h
 · rename_i i n
   split at h
   · rename_i xs hx
     obtain ⟨j, h1, h⟩ := aH h
     cases h
     obtain ⟨us, hv, hr⟩ := G.lstAt hx
     refine ⟨W.α i, us, n, j, rx.2, ry, hv, by rw [<- Paired.len hr]; exact h1, ?_⟩
     exact k W _ (.refl _) (G.set hx (by intro q; cases q) (c' := .lst (xs.set j z)) (show RepVs K W _ _ from Paired.set (R := RepV K W) rz j hr))
   · cases h
 · cases h
end
end L2
end
section
set_option Elab.async false
set_option linter.all false
set_option maxRecDepth 100000
set_option maxHeartbeats 4000000
namespace L2
open PySem PySem.Spec PyProof.Rows
section
variable {X : Cx} {K : PySem.W.Frag}
def MC (K : PySem.W.Frag) : R2 := fun x y H Q => ∃ l b xs zs, x = .ref l /\ y = .ref b /\ SqL K H l xs /\ SqL K H b zs /\ xs.length + zs.length <= sizeLine /\ ∀ p, H p = none -> Q (.ref p) (upd H p (.lst (xs ++ zs)))
theorem op_catS : OpR X (binaryOp .Add) (MC X.K) := by
 intro pins s σ H x y v u Q I rx ry h
 obtain ⟨l, b, xs, zs, rfl, rfl, hH, hB, hz, q⟩ := h
 cases rx
 cases ry
 obtain ⟨its, r, ⟨⟨cls, dd, data, sl⟩, n, ho, hc, hdd, hd⟩, _⟩ := I.list hH
 obtain ⟨its2, r2, ⟨⟨cls2, dd2, data2, sl2⟩, n2, ho2, hc2, hdd2, hd2⟩, _⟩ := I.list hB
 simp only at hc hd hc2 hd2
 subst hc hd hc2 hd2
 have e1 := r.length
 have e2 := r2.length
 refine concat_meets ⟨_, ho, rfl⟩ ⟨_, ho2, rfl⟩ noFill_list_add seq_list_add PySem.F.slot_list_add PySem.F.entry_list_add (PySem.F.args_list_add_2 _ _) (list_addW l b its.toArray its2.toArray n n2 dd dd2 sl sl2 (by rw [List.size_toArray, List.size_toArray]; omega)) ⟨ho, ho2, ?_⟩
 have ea : its.toArray ++ its2.toArray = (its ++ its2).toArray := by simp
 rw [ea]
 exact ⟨.ref _, _, I.lnew (t' := s.toks) (r.append r2) (by rw [List.length_append]; omega), rfl, q _ I.fresh⟩
def AU (M : Sto) : CD -> Option (List CD)
 | .d (.list ds) => some (ds.map .d)
 | .c i => match M[i]? with
  | some (.lst xs) => some xs
  | _ => none
 | _ => none
theorem vG {W : Wd} {M : Sto} {H : Hp} {x : CD} {xs : List CD} {v : V} (G : Good K W M H) (h : AU M x = some xs) (r : RepV K W x v) : ∃ p vs, v = .ref p /\ SqL K H p vs /\ RepVs K W xs vs := by
 unfold AU at h
 split at h
 · rename_i ds
   cases h
   obtain ⟨p, us, rfl, hq, hr⟩ := (show ∃ a us, _ = V.ref a /\ SqL K W.F a us /\ RepAll K W.F ds us from r)
   exact ⟨p, us, rfl, G.fh.seq hq, mF hr⟩
 · rename_i i
   split at h
   · rename_i ys hy
     cases h
     obtain ⟨us, hv, hr⟩ := G.lstAt hy
     exact ⟨_, us, r.2, SqL.of hv, hr⟩
   · cases h
 · cases h
def SD : F2 := fun x y M => (AU M x).bind fun xs => (AU M y).bind fun ys => (lO (xs ++ ys)).bind fun ds => if ds.length <= sizeLine then some (.d (.list ds), M) else none
theorem UF : P2 K (MC K) SD := by
 intro x y M z M' h W H v u Q G rx ry k
 obtain ⟨xs, h1, h⟩ := aH h
 obtain ⟨ys, h2, h⟩ := aH h
 obtain ⟨ds, h3, h⟩ := aH h
 by_cases hl : ds.length <= sizeLine
 · rw [if_pos hl] at h
   cases h
   obtain ⟨p, vs, rfl, hp, hr⟩ := vG G h1 rx
   obtain ⟨q, us, rfl, hq, hs⟩ := vG G h2 ry
   have el := tX h3
   rw [List.length_append] at el
   refine ⟨p, q, vs, us, rfl, rfl, hp, hq, by rw [<- Paired.len hr, <- Paired.len hs]; omega, fun l hl => ?_⟩
   obtain ⟨e2, G2⟩ := G.lay (o := .lst (vs ++ us)) hl
   exact k _ _ _ e2 G2 ⟨l, _, rfl, SqL.of aT, RepAll.same e2.ff _ _ (fI h3 (Paired.app hr hs))⟩
 · rw [if_neg hl] at h; cases h
def XO : F2 := fun x y M => match x, y with
 | .d (.tuple xs), .d (.tuple ys) => if xs ≠ [] /\ xs.length + ys.length <= sizeLine then some (.d (.tuple (xs ++ ys)), M) else none
 | _, _ => none
theorem RepAll.nil_iff {H : Hp} {ds : List PyData} {vs : List V} (r : RepAll K H ds vs) : vs = [] ↔ ds = [] := by
 have := r.length
 constructor <;> intro h <;> subst h <;> simp at this
 · exact this
 · exact List.eq_nil_of_length_eq_zero this.symm
theorem TM : P2 K (KW K) XO := by
 intro x y M z M' h W H v u Q G rx ry k
 unfold XO at h
 split at h
 · rename_i xs ys
   by_cases hc : xs ≠ [] /\ xs.length + ys.length <= sizeLine
   · rw [if_pos hc] at h
     cases h
     obtain ⟨p, vs, rfl, hp, hr⟩ := (show ∃ a us, v = V.ref a /\ SqT K W.F a us /\ RepAll K W.F xs us from rx)
     obtain ⟨q, us, rfl, hq, hs⟩ := (show ∃ a us, u = V.ref a /\ SqT K W.F a us /\ RepAll K W.F ys us from ry)
     refine ⟨p, q, vs, us, rfl, rfl, G.fh.seqT hp, G.fh.seqT hq, fun z => hc.1 (hr.nil_iff.mp z), by rw [<- hr.length, <- hs.length]; exact hc.2, fun z => ?_, fun z l hl => ?_⟩
     · have : ys = [] := hs.nil_iff.mp z
       subst this
       rw [List.append_nil] at k
       exact k _ W H (.refl _) G ⟨p, vs, rfl, hp, hr⟩
     · obtain ⟨e2, G2⟩ := G.lay (o := .tup (vs ++ us)) hl
       exact k _ _ _ e2 G2 ⟨l, _, rfl, SqT.of aT, RepAll.same e2.ff _ _ (RepAll.app hr hs)⟩
   · rw [if_neg hc] at h; cases h
 · cases h
theorem P2.or {r r' : R2} {h h' : F2} (a : P2 K r h) (b : P2 K r' h') : P2 K (fun x y H Q => r x y H Q \/ r' x y H Q) (CO h h') := by
 intro x y M z M' hh W H v u Q G rv ru k
 unfold CO at hh
 cases e : h x y M with
 | some q =>
  rw [e] at hh
  cases hh
  exact .inl (a _ _ _ _ _ e W H v u Q G rv ru k)
 | none =>
  rw [e] at hh
  exact .inr (b _ _ _ _ _ hh W H v u Q G rv ru k)
def DH (K : PySem.W.Frag) : R2 := fun x y H Q => ∃ a b ys, x = .ref a /\ y = .ref b /\ SqT K H a [] /\ SqT K H b ys /\ Q (.ref b) H
theorem op_catT0 : OpR X (binaryOp .Add) (DH X.K) := by
 intro pins s σ H x y v u Q I rx ry h
 obtain ⟨a, b, ys, rfl, rfl, ha, hb, q⟩ := h
 cases rx
 cases ry
 obtain ⟨its, r1, ⟨⟨cls, dd, data, sl⟩, ho, hc, n, hd⟩, _⟩ := I.tuple ha
 obtain ⟨its2, r2, ⟨⟨cls2, dd2, data2, sl2⟩, ho2, hc2, n2, hd2⟩, _⟩ := I.tuple hb
 simp only at hc hd hc2 hd2
 subst hc hd hc2 hd2
 cases r1
 exact concat_meets ⟨_, ho, rfl⟩ ⟨_, ho2, rfl⟩ noFill_tuple_add seq_tuple_add PySem.F.slot_tuple_add PySem.F.entry_tuple_add (PySem.F.args_tuple_add_2 _ _) (tuple_addW0 a b #[] its2.toArray n n2 dd dd2 sl sl2 rfl) ⟨ho, ho2, ⟨.ref b, H, I, rfl, q⟩⟩
def NR : F2 := fun x y M => match x, y with
 | .d (.tuple []), .d (.tuple ys) => some (.d (.tuple ys), M)
 | _, _ => none
theorem MJ : P2 K (DH K) NR := by
 intro x y M z M' h W H v u Q G rx ry k
 unfold NR at h
 split at h
 · rename_i ys
   cases h
   obtain ⟨p, vs, rfl, hp, hr⟩ := (show ∃ a us, v = V.ref a /\ SqT K W.F a us /\ RepAll K W.F [] us from rx)
   obtain ⟨q, us, rfl, hq, hs⟩ := (show ∃ a us, u = V.ref a /\ SqT K W.F a us /\ RepAll K W.F ys us from ry)
   rw [show vs = [] from hr] at hp
   exact ⟨p, q, us, rfl, rfl, G.fh.seqT hp, G.fh.seqT hq, k _ W H (.refl _) G ⟨q, us, rfl, hq, hs⟩⟩
 · cases h
def eU : F2 := CO aAV (CO SD (CO NR XO))
def LZ (K : PySem.W.Frag) : R2 := fun x y H Q => (rI0 fun i j => .int (i + j)) x y H Q \/ MC K x y H Q \/ DH K x y H Q \/ KW K x y H Q
theorem SN : OpR X (binaryOp .Add) (LZ X.K) := op_add.or (op_catS.or (op_catT0.or PX))
theorem QG : P2 K (LZ K) eU := P2.or UT (P2.or UF (P2.or MJ TM))
def eqS (neg : Bool) : F2 := fun x y M => match x, y with
 | .d (.str a), .d (.str b) => some (.d (.bool (if neg then !(a == b) else a == b)), M)
 | _, _ => none
def eqX (neg : Bool) : F2 := CO (eqS neg) (eqD neg)
def aAR (K : PySem.W.Frag) : R2 := fun x y H Q => rEq x y H Q \/ NU K false x y H Q
def ZH (K : PySem.W.Frag) : R2 := fun x y H Q => rNe x y H Q \/ NU K true x y H Q
theorem KM {a b : Str} : decide (V.str a = V.str b) = (a == b) := by
 by_cases e : a = b
 · subst e; simp
 · have h : ¬ V.str a = V.str b := fun q => e (V.str.inj q)
   rw [decide_eq_false h, beq_eq_false_iff_ne.mpr e]
theorem ZG : P2 K rEq (eqS false) := by
 intro x y M z M' h W H v u Q G rx ry k
 unfold eqS at h
 split at h
 · rename_i a b
   cases h
   rw [show v = .str a from rx, show u = .str b from ry]
   refine ⟨rfl, ?_⟩
   rw [KM]
   exact k _ W H (.refl _) G rfl
 · cases h
theorem ZY : P2 K rNe (eqS true) := by
 intro x y M z M' h W H v u Q G rx ry k
 unfold eqS at h
 split at h
 · rename_i a b
   cases h
   rw [show v = .str a from rx, show u = .str b from ry]
   refine ⟨rfl, ?_⟩
   rw [KM]
   exact k _ W H (.refl _) G rfl
 · cases h
theorem YD : P2 K (aAR K) (eqX false) := P2.or ZG UU
theorem YV : P2 K (ZH K) (eqX true) := P2.or ZY UU
theorem ZA (hu : X.A.units + 64 < cLine) : OpR X (compareOp .Eq) (aAR X.K) := op_eq.or (ZL hu)
theorem WO (hu : X.A.units + 64 < cLine) : OpR X (compareOp .NotEq) (ZH X.K) := op_ne.or (aAr hu)
theorem XX : P2 K (rI0 fun i j => .int (i - j)) rE := UT
theorem aAu : P2 K (rI CMulA fun i j => .int (i * j)) AG := RZ fun _ _ h => mulOk_of h
theorem SH : P2 K (rI UV fun i j => .int (i / j)) vE := RZ fun i j h => by
 unfold vN at h
 rw [Bool.and_eq_true] at h
 exact ⟨of_decide_eq_true h.1, of_decide_eq_true (p := j.natAbs < lK) h.2⟩
theorem YC : P2 K (rI (fun _ j => 0 < j) fun i j => .int (i % j)) mR := RZ fun i j h => of_decide_eq_true h
theorem aBa : P2 K (rI aCC fun i j => .int (i ^ j.toNat)) pO := RZ fun i j h => by
 unfold qK at h
 rw [Bool.and_eq_true, Bool.and_eq_true] at h
 exact ⟨of_decide_eq_true h.1.1, of_decide_eq_true h.1.2, of_decide_eq_true h.2⟩
theorem aCe : P2 K (rI0 fun i j => .bl (decide (i < j))) ltI := DL
theorem aBz : P2 K (rI0 fun i j => .bl (decide (i <= j))) leI := DL
theorem aBW : P2 K (rI0 fun i j => .bl (decide (j < i))) gtI := DL
theorem aBL : P2 K (rI0 fun i j => .bl (decide (j <= i))) geI := DL
def wO : F1 := fun x M => match x with
 | .d (.int i) => some (.d (.int (-i)), M)
 | _ => none
theorem aAK : P1 K (rU fun i => .int (-i)) wO := by
 intro x M z M' h W H v Q G r k
 unfold wO at h
 split at h
 · rename_i i
   cases h
   exact ⟨i, r, k _ W H (.refl _) G rfl⟩
 · cases h
end
end L2
end
section
set_option Elab.async false
set_option linter.all false
set_option maxRecDepth 100000
set_option maxHeartbeats 4000000
namespace L2
open PySem PySem.Spec PyProof.Rows
section
variable {X : Cx} {K : PySem.W.Frag}
theorem aDg (h : X.K = K) : gV X (.builtin "isinstance") (XY K) := by subst h; exact GR
theorem aCo (h : X.K = K) : gV X (.builtin "isinstance") (IT K) := by subst h; exact CU
def aCz (K : PySem.W.Frag) : R2 := rIx K
theorem kIx (h : X.K = K) : IxR X (aCz K) := by subst h; exact aAk
theorem XG : P2 K (aCz K) ixF := aBJ
def VI (K : PySem.W.Frag) : List V -> Hp -> VK -> Prop := fun xs H Q => ∃ p ys, xs = [.ref p] /\ (SqL K H p ys \/ SqT K H p ys) /\ Q (.int ys.length) H
theorem aCS (h : X.K = K) : gV X (.builtin "len") (VI K) := by subst h; exact xY
theorem TU : PN K (VI K) gN := WT
def FH (K : PySem.W.Frag) : List V -> Hp -> VK -> Prop := fun xs H Q => ∃ p ys, xs = [.ref p] /\ ((SqL K H p ys /\ ∀ l, H l = none -> Q (.ref l) (upd H l (.tup ys))) \/ (SqT K H p ys /\ Q (.ref p) H))
theorem ZJ (h : X.K = K) : gV X (.type "tuple") (FH K) := by subst h; exact uV
theorem GM : PN K (FH K) fW := NW
def UX (K : PySem.W.Frag) : List V -> Hp -> VK -> Prop := fun xs H Q => ∃ (p : Addr) (bs : List Bool), xs = [.ref p] /\ SqL K H p (bs.map V.bl) /\ Q (.bl (bs.all id)) H
theorem aCY (h : X.K = K) (hc : X.calm = true) : gV X (.builtin "all") (UX K) := by subst h; exact GG hc
theorem QM : PN K (UX K) DA := aAg
theorem kEq (h : X.K = K) (hu : X.A.units + 64 < cLine) : OpR X (compareOp .Eq) (aAR K) := by subst h; exact ZA hu
theorem kNe (h : X.K = K) (hu : X.A.units + 64 < cLine) : OpR X (compareOp .NotEq) (ZH K) := by subst h; exact WO hu
theorem kIn (h : X.K = K) (hu : X.A.in1.units + 64 < cLine) : OpR X (compareOp .In) (aAh K false) := by subst h; exact ZQ hu
theorem aCR (h : X.K = K) : OpR X (binaryOp .Add) (LZ K) := by subst h; exact SN
theorem RE {tg l : Expr} {tl : TE} (h : X.K = K) (hl : PE X l tl) : PI X tg l (aAL K tl) := by subst h; exact aAf hl
theorem RD {es : List Expr} {k : Nat} {t : TGs} {n : Nat} {pos : Pos} (hK : X.K = K) (hc : X.calm = true) (h : PGs X es t)
 (hn : (assignEach es X.env).length = n := by rfl) (hst : (assignEach es X.env).findIdx? (·.1) = none := by rfl) : PG X (.Tuple es k pos) (aAA K n t) := by subst hK; exact XN hc h hn hst
def aCq (K : PySem.W.Frag) (ta : TE) : TT := fun σ H Q => ta σ H fun x H' => ∃ k, TQ K x H' k /\ Q k H'
theorem RX {a : Expr} {ta : TE} (hK : X.K = K) (ha : PE X a ta) (he : ∀ whole, isTrue a X.env whole = (do let v <- whole; standAt a.pos; holding [v] (truthy v))) : PT X a (aCq K ta) := by subst hK; exact MN ha he
theorem RQ {ta : TE} {f : EF} (a : SE K ta f) : STt K (aCq K ta) (BP f) := aBh a
end
end L2
end
section
set_option Elab.async false
set_option linter.all false
namespace L2
open PySem PySem.Spec PyProof.Rows
section
variable {es : List Expr} {env : Env}
theorem aW {a b} : starEach (.Name a b :: es) env = (false, eval (.Name a b) env) :: starEach es env := rfl
theorem uE {a b c} : starEach (.Tuple a b c :: es) env = (false, eval (.Tuple a b c) env) :: starEach es env := rfl
theorem pY {pos : Pos} : (backTo pos (starEach [] env)).any (·.1) = false := rfl
theorem jW {pos : Pos} {e : Expr} (hs : starEach (e :: es) env = (false, eval e env) :: starEach es env) (h : (backTo pos (starEach es env)).any (·.1) = false) : (backTo pos (starEach (e :: es) env)).any (·.1) = false := by
 rw [hs]
 have e1 : backTo pos ((false, eval e env) :: starEach es env) = (false, (do let v <- eval e env; standAt pos; pure v : Sem Value)) :: backTo pos (starEach es env) \/ (backTo pos ((false, eval e env) :: starEach es env)).any (·.1) = (backTo pos (starEach es env)).any (·.1) := .inr (by unfold backTo; simp)
 rcases e1 with q | q
 · rw [q, List.any_cons, h]; rfl
 · rw [q]; exact h
end
end L2
end
section
set_option Elab.async false
set_option linter.all false
set_option maxRecDepth 100000
set_option maxHeartbeats 4000000
namespace L2
open PySem PySem.Spec PyProof.Rows
section
variable {P : Program} {w : World} {K : PySem.W.Frag} {mg : Str -> Option Value}
theorem Fun.okM {base : Heap} {x : Str} {st : Stmt} {N ps : List Str} {k : Nat} {b : SF} {f : Addr} {fd : FuncData} (F : Fun K x x st f fd) (S : aS N ps (aG st))
 (hbody : ∀ (f : Addr) (cdv : Value) (A : Around) (outer : List Env) (s : Shared) (H : Hp) (E : XK), Room k (A.deeper (envOfC x (aG st) s.heap.objs.size f cdv)) ->
  ∃ t, PSs (jB CX0 P w K mg base N x (aG st) f cdv A outer s H E).nox (bI st) t /\ SS K t b) : FnOk P w K mg base CX0 (k + 1) f fd ps (spM K (fnF ps.length N.length b)) := by
 have len : ∀ vs H Q E, spM K (fnF ps.length N.length b) vs H Q E -> vs.length = ps.length := fun vs H Q E h => by
  obtain ⟨xs, M, W, y, M', G, R, hf, _⟩ := h
  by_cases hl : xs.length = ps.length
  · rw [<- Paired.len R]; exact hl
  · unfold fnF at hf
    rw [if_neg hl] at hf; cases hf
 refine F.ok S len fun cdv A outer s H vs Q E hr h => ?_
 obtain ⟨t, hP, hS⟩ := hbody f cdv A outer s H E hr
 refine ⟨t, hP, ?_⟩
 obtain ⟨xs, M, W, y, M', G, R, hf, k⟩ := h
 by_cases hl : xs.length = ps.length
 · unfold fnF at hf
   rw [if_pos hl] at hf
   obtain ⟨⟨o, M1⟩, h1, hf⟩ := aH hf
   have hR : RepS K W (xs.map some ++ List.replicate (N.length - xs.length) none) (start N vs) := by
    unfold start
    rw [<- Paired.len R]
    exact Paired.app (RepVs.some R) (mH _)
   refine hS _ _ _ _ h1 W H _ _ G hR fun W1 H1 e1 G1 => ?_
   cases o with
   | rt x => cases hf; exact fun v r => k v W1 H1 e1 G1 r
   | nx γ => cases hf; exact fun σ r => k .non W1 H1 e1 G1 rfl
   | bk γ => cases hf
   | ct γ => cases hf
 · unfold fnF at hf
   rw [if_neg hl] at hf; cases hf
theorem Def.okL {x p : Str} {st : Stmt} {N : List Str} {k : Nat} {b : SF} {F : FN} (D : Def K mg x st) (S : aS N [p] (aG st)) (hF : F = fnF 1 N.length b)
 (hb : ∀ (kV doc pm : Value) (an : Option Addr) (cdv ct : Value) (us : List Value), us.length = [p].length -> bindArgs (PySem.W.fnOf x x (cW st) (bI st) (aG st) .none kV doc pm an cdv ct) ⟨us, []⟩ = pure ([p].zip us))
 (hbody : ∀ (base : Heap) (f : Addr) (cdv : Value) (A : Around) (outer : List Env) (s : Shared) (H : Hp) (E : XK), Room k (A.deeper (envOfC x (aG st) s.heap.objs.size f cdv)) ->
  ∃ t, PSs (jB CX0 P w K mg base N x (aG st) f cdv A outer s H E).nox (bI st) t /\ SS K t b) :
 ∃ f fd, mg x = some (.ref f) /\ (∀ (s : Shared) (u : Value), BindsTo s fd ⟨[u], []⟩ [(p, u)]) /\ ∀ base, FnOk P w K mg base CX0 (k + 1) f fd [p] (spM K F) := by
 subst hF
 obtain ⟨f, fd, Fu, m⟩ := D.ex
 refine ⟨f, fd, m, fun s u => ?_, fun base => Fu.okM S (hbody base)⟩
 obtain ⟨oc, od, kV, doc, pm, an, cdv, ct, osl, rfl, lk, hcd⟩ := Fu.ex
 exact .of_eq (hb kV doc pm an cdv ct [u] rfl)
theorem zU {H : Hp} : ∀ ns : List Int, RepAll K H (ns.map .int) (ns.map V.int)
 | [] => rfl
 | n :: ns => ⟨.int n, ns.map V.int, rfl, rfl, zU ns⟩
theorem YA {F : FN} (hF : ∀ ns : List Int, ns.length <= 63 -> ∃ M', F [.d (.list (ns.map .int))] [] = some (.d (.bool true), M')) {H : Hp} {a : Addr} {ns : List Int} (hl : ns.length <= 63) (hS : SqL K H a (ns.map V.int)) (E : XK) :
 spM K F [.ref a] H (fun v _ => v = .bl true) E := by
 obtain ⟨M', h⟩ := hF ns hl
 refine ⟨[.d (.list (ns.map .int))], [], ⟨H, fun _ => 0, 0⟩, _, M', ⟨Same.refl H, rfl, fun i c h => by simp at h, fun i j c c' h => by simp at h⟩, .cons (show ∃ a' vs, V.ref a = .ref a' /\ SqL K H a' vs /\ RepAll K H (ns.map .int) vs from ⟨a, ns.map V.int, rfl, hS, zU ns⟩) .nil, h, fun v W' H' _ _ r => r⟩
theorem law_walk {l : PySem.W.OpenLaw} {q : Program} {loose : List Str} {XP : (Str -> Option Value) -> Heap -> Prop} {YP : World -> Heap -> Prop} {d : DefRec} {K : Params -> PySem.W.Frag} {F : FN} {k : Nat} {p : Str} (hq : PyProof.Rows.importsNone q = true) (hn : l.most = some 63) (hdf : d.params.defaults = []) (hr : Room k callerA)
 (hY : ∀ (w : World) (h : Heap), YP w h -> (K w.params).In h)
 (hT : ∀ (w : World) (mg : Str -> Option Value) (h : Heap), (K w.params).In h -> h.Ns mainGlobals mg -> ∃ f fd, mg d.name = some (.ref f) /\ (∀ (s : Shared) (u : Value), BindsTo s fd ⟨[u], []⟩ [(p, u)]) /\ ∀ base, FnOk l.prog w (K w.params) mg base CX0 k f fd [p] (spM (K w.params) F))
 (hF : ∀ ns : List Int, ns.length <= 63 -> ∃ M', F [.d (.list (ns.map .int))] [] = some (.d (.bool true), M')) :
 PySem.W.WalkO q loose XP YP l.row.toRowW d [] (fun f vs => PySem.call f vs) :=
 L2.walk_of hq (n := 63) (k := k) (x := p) (CX := fun _ => CX0) (sp := fun w => spM (K w.params) F) hn (by decide) hdf hr hY
  (fun w mg fa h KX G hmg => by
   obtain ⟨f, fd, m, hb, hf⟩ := hT w mg h KX G
   have e : (some (Value.ref f)) = some (.ref fa) := m.symm.trans hmg
   cases e
   exact ⟨fd, hb, fun base _ _ => hf base⟩)
  (fun w H a ns hl _ hS => YA hF hl hS _) fun _ _ _ _ _ z => z
end
end L2
end
section
set_option Elab.async false
set_option linter.all false
set_option maxRecDepth 100000
set_option maxHeartbeats 4000000
namespace L2
open PySem PySem.Spec PyProof.Rows
def GU (e : Expr) (es : List Expr) : Prop := ∀ env : Env, starEach (e :: es) env = (false, eval e env) :: starEach es env
def Stars : List Expr -> Prop
 | [] => True
 | e :: es => GU e es /\ Stars es
theorem Stars.plain : ∀ {es : List Expr}, Stars es -> ∀ (env : Env) (pos : Pos), (backTo pos (starEach es env)).any (·.1) = false
 | [], _, _, _ => rfl
 | _ :: _, h, env, pos => jW (h.1 env) (h.2.plain env pos)
section
variable {ι : Type}
structure ME (K : PySem.W.Frag) (X : ι -> Cx) (e : Expr) (f : EF) : Prop where
 ex : ∃ t, (∀ i, PE (X i) e t) /\ SE K t f
structure MT (K : PySem.W.Frag) (X : ι -> Cx) (e : Expr) (f : TF) : Prop where
 ex : ∃ t, (∀ i, PT (X i) e t) /\ STt K t f
structure MW (K : PySem.W.Frag) (X : ι -> Cx) (e : Expr) (f : TF) : Prop where
 ex : ∃ t, (∀ i, PW (X i) e t) /\ STt K t f
structure MA (K : PySem.W.Frag) (X : ι -> Cx) (es : List Expr) (f : AF) : Prop where
 ex : ∃ t, (∀ i, PA (X i) es t) /\ SA K t f
 st : Stars es
structure MG (K : PySem.W.Frag) (X : ι -> Cx) (e : Expr) (f : GF) : Prop where
 ex : ∃ t, (∀ i, PG (X i) e t) /\ SG K t f
structure MGs (K : PySem.W.Frag) (X : ι -> Cx) (es : List Expr) (f : GsF) : Prop where
 ex : ∃ t, (∀ i, PGs (X i) es t) /\ SGs K t f
structure MI (K : PySem.W.Frag) (X : ι -> Cx) (tg e : Expr) (f : AF) : Prop where
 ex : ∃ t, (∀ i, PI (X i) tg e t) /\ SI K t f
structure MF (K : PySem.W.Frag) (X : ι -> Cx) (es : List Expr) (f : TF) : Prop where
 ex : ∃ t, (∀ i, yM (X i) es t) /\ STt K t f
structure MS (K : PySem.W.Frag) (X : ι -> Cx) (st : Stmt) (f : SF) : Prop where
 ex : ∃ t, (∀ i, PS (X i) st t) /\ SS K t f
structure ML (K : PySem.W.Frag) (X : ι -> Cx) (st : List Stmt) (f : SF) : Prop where
 ex : ∃ t, (∀ i, PSs (X i) st t) /\ SS K t f
structure Q2 (K : PySem.W.Frag) (X : ι -> Cx) (o : Value -> Value -> Sem Value) (h : F2) : Prop where
 ex : ∃ r, (∀ i, OpR (X i) o r) /\ P2 K r h
structure Q1 (K : PySem.W.Frag) (X : ι -> Cx) (o : Value -> Sem Value) (h : F1) : Prop where
 ex : ∃ r, (∀ i, UnR (X i) o r) /\ P1 K r h
structure QN (K : PySem.W.Frag) (X : ι -> Cx) (f : Value) (h : FN) : Prop where
 ex : ∃ r, (∀ i, gV (X i) f r) /\ PN K r h
structure QI (K : PySem.W.Frag) (X : ι -> Cx) (h : F2) : Prop where
 ex : ∃ r, (∀ i, IxR (X i) r) /\ P2 K r h
structure QS (K : PySem.W.Frag) (X : ι -> Cx) (h : F3) : Prop where
 ex : ∃ r, (∀ i, YS (X i) r) /\ P3 K r h
variable {K : PySem.W.Frag} {X : ι -> Cx} {a b c e : Expr} {es : List Expr} {f g h : EF} {ft gt : TF} {fa : AF} {pos : Pos}
theorem aC (i : Nat) {x : Str} (hN : ∀ j, (X j).N[i]? = some x := by intro _; rfl) (hv : ∀ j, Vis (X j).env.scope x := by intro _; first | exact Or.inl rfl | exact Or.inr (Or.inl rfl) | exact Or.inr (Or.inr rfl)) (hd : (x == ("__debug__" : Str)) = false := by decide) (hcd : (x == ("__classdict__" : Str)) = false := by decide) :
 ME K X (.Name x pos) (aE i) := ⟨_, fun j => aAC (hN j) (hv j) hd hcd, WU⟩
theorem aD {i : Int} {j : Nat} : ME K X (.Constant (.int i) j pos) (fC (.int i)) := ⟨_, fun _ => WD, KJ⟩
theorem eZ {i : Bool} {j : Nat} : ME K X (.Constant (.bool i) j pos) (fC (.bool i)) := ⟨_, fun _ => aCJ, aCw⟩
theorem nX {j : Nat} : ME K X (.Constant .none j pos) (fC .none) := ⟨_, fun _ => YY, YN⟩
theorem eM {i : Str} {j : Nat} : ME K X (.Constant (.str i) j pos) (fC (.str i)) := ⟨_, fun _ => YO, XT⟩
theorem sF {x : Str} {n : Int} (hm : ∀ i, ∃ t : Tok, (X i).mg x = some (.int n t)) (hg : ∀ i, Gl (X i) x := by intro _; rfl) (hd : (x == ("__debug__" : Str)) = false := by decide) : ME K X (.Name x pos) (fC (.int n)) :=
 ⟨_, fun i => EJ (v := .int n) (hg i) (hm i).choose_spec ⟨_, rfl⟩ hd, KJ⟩
theorem bA {op : Operator} {k : F2} (q : Q2 K X (binaryOp op) k) (x : ME K X a f) (y : ME K X b g) : ME K X (.BinOp a op b pos) (fOp k f g) := by
 obtain ⟨r, q1, q2⟩ := q.ex; obtain ⟨t, x1, x2⟩ := x.ex; obtain ⟨u, y1, y2⟩ := y.ex
 exact ⟨_, fun i => aCE (q1 i) (x1 i) (y1 i), ER q2 x2 y2⟩
theorem AW {op : UnaryOp} {k : F1} (q : Q1 K X (unaryOp op) k) (x : ME K X a f) : ME K X (.UnaryOp op a pos) (fUn k f) := by
 obtain ⟨r, q1, q2⟩ := q.ex; obtain ⟨t, x1, x2⟩ := x.ex
 exact ⟨_, fun i => aCF (q1 i) (x1 i), aBy q2 x2⟩
theorem cO {rest : List Expr} (x : ME K X a f) (y : ME K X (.BoolOp .And (b :: rest) pos) g) : ME K X (.BoolOp .And (a :: b :: rest) pos) (gX f g) := by
 obtain ⟨t, x1, x2⟩ := x.ex; obtain ⟨u, y1, y2⟩ := y.ex
 exact ⟨_, fun i => YR (x1 i) (y1 i), aAS x2 y2⟩
theorem aCu {rest : List Expr} (x : ME K X a f) (y : ME K X (.BoolOp .Or (b :: rest) pos) g) : ME K X (.BoolOp .Or (a :: b :: rest) pos) (fOr f g) := by
 obtain ⟨t, x1, x2⟩ := x.ex; obtain ⟨u, y1, y2⟩ := y.ex
 exact ⟨_, fun i => aBm (x1 i) (y1 i), aBU x2 y2⟩
theorem eI {op : BoolOp} (x : ME K X a f) : ME K X (.BoolOp op [a] pos) f := by
 obtain ⟨t, x1, x2⟩ := x.ex
 exact ⟨_, fun i => aAU (x1 i), x2⟩
theorem iH (x : ME K X a f) : ME K X (.UnaryOp .Not a pos) (tP f) := by
 obtain ⟨t, x1, x2⟩ := x.ex
 exact ⟨_, fun i => WZ (x1 i), WS x2⟩
theorem gR {op : CmpOp} {k : F2} (q : Q2 K X (compareOp op) k) (x : ME K X a f) (y : ME K X b g) (hm : behindInMarks op b = false := by rfl) : ME K X (.Compare a [op] [b] pos) (fOp k f g) := by
 obtain ⟨r, q1, q2⟩ := q.ex; obtain ⟨t, x1, x2⟩ := x.ex; obtain ⟨u, y1, y2⟩ := y.ex
 exact ⟨_, fun i => SX (q1 i) (x1 i) (y1 i) hm, ER q2 x2 y2⟩
theorem zX {op op' : CmpOp} {k k' : F2} (q : Q2 K X (compareOp op) k) (q' : Q2 K X (compareOp op') k') (x : ME K X a f) (y : ME K X b g) (z : ME K X c h) (hm : lastMarks [op, op'] [b, c] = false := by with_unfolding_all rfl) : ME K X (.Compare a [op, op'] [b, c] pos) (tJ k k' f g h) := by
 obtain ⟨r, q1, q2⟩ := q.ex; obtain ⟨r', q1', q2'⟩ := q'.ex; obtain ⟨t, x1, x2⟩ := x.ex; obtain ⟨u, y1, y2⟩ := y.ex; obtain ⟨v, z1, z2⟩ := z.ex
 exact ⟨_, fun i => NT (q1 i) (q1' i) (x1 i) (y1 i) (z1 i) hm, MZ q2 q2' x2 y2 z2⟩
theorem aBF (x : MT K X c ft) (y : ME K X a f) (z : ME K X b g) : ME K X (.IfExp c a b pos) (fIf ft f g) := by
 obtain ⟨t, x1, x2⟩ := x.ex; obtain ⟨u, y1, y2⟩ := y.ex; obtain ⟨v, z1, z2⟩ := z.ex
 exact ⟨_, fun i => LQ (x1 i) (y1 i) (z1 i), aBI x2 y2 z2⟩
theorem aF : MA K X [] aJ := ⟨⟨_, fun _ => tO, ZS⟩, trivial⟩
theorem aA (x : ME K X e f) (y : MA K X es fa) (hs : GU e es := by intro _; rfl) : MA K X (e :: es) (aB f fa) := by
 obtain ⟨t, x1, x2⟩ := x.ex; obtain ⟨u, y1, y2⟩ := y.ex
 exact ⟨⟨_, fun i => gJ (x1 i) (y1 i) (hs _), OW x2 y2⟩, hs, y.st⟩
theorem bD {k : Nat} (x : MA K X es fa) : ME K X (.Tuple es k pos) (cL fa) := by
 obtain ⟨t, x1, x2⟩ := x.ex
 exact ⟨_, fun i => wY (x1 i), YX x2⟩
theorem dH (x : MA K X es fa) : ME K X (.List es pos) (gZ fa) := by
 obtain ⟨t, x1, x2⟩ := x.ex
 exact ⟨_, fun i => OT (x1 i), XF x2⟩
theorem CQ (x : MA K X es fa) : ME K X (.List es pos) (AS fa) := by
 obtain ⟨t, x1, x2⟩ := x.ex
 exact ⟨_, fun i => OT (x1 i), XZ x2⟩
theorem aZ {k : F2} (q : QI K X k) (x : ME K X a f) (y : ME K X b g) (hs : DS b := by intro _ _; rfl) : ME K X (.Subscript a b pos) (fOp k f g) := by
 obtain ⟨r, q1, q2⟩ := q.ex; obtain ⟨t, x1, x2⟩ := x.ex; obtain ⟨u, y1, y2⟩ := y.ex
 exact ⟨_, fun i => aBr (q1 i) (x1 i) (y1 i) hs, ER q2 x2 y2⟩
theorem aK {k : Nat} {x : Str} {ps : List Str} {F : FN} {p : Pos} {q : Bool} (C : ∀ i, Callee (X i).prog (X i).w (X i).K (X i).mg (X i).base k x ps (spM K F) q) (hr : ∀ i, Room k (X i).A q) (y : MA K X (e :: es) fa) (hg : ∀ i, Gl (X i) x := by intro _; rfl) (hd : (x == ("__debug__" : Str)) = false := by decide) :
 ME K X (.Call (.Name x p) (e :: es) [] pos) (aM F fa) := by
 obtain ⟨u, y1, y2⟩ := y.ex
 exact ⟨_, fun i => YB (C i) (hr i) (y1 i) (hg i) hd (y.st.1 _) (y.st.2.plain _ _), OY y2⟩
theorem fT {x : Str} {id : String} {F : FN} {p : Pos} (q : QN K X (.builtin id) F) (hm : ∀ i, (X i).mg x = none) (hv : bootBuiltins x = some (.builtin id)) (y : MA K X (e :: es) fa) (hg : ∀ i, Gl (X i) x := by intro _; rfl) (hn : x ≠ "__name__" := by decide) (hd : (x == ("__debug__" : Str)) = false := by decide) :
 ME K X (.Call (.Name x p) (e :: es) [] pos) (aM F fa) := by
 obtain ⟨r, q1, q2⟩ := q.ex; obtain ⟨u, y1, y2⟩ := y.ex
 exact ⟨_, fun i => pD (q1 i) (hg i) (hm i) hv (y1 i) hn hd (y.st.1 _) (y.st.2.plain _ _), US q2 y2⟩
theorem jP {x : Str} {id : String} {F : FN} {p : Pos} (q : QN K X (.type id) F) (hm : ∀ i, (X i).mg x = none) (hv : bootBuiltins x = some (.type id)) (y : MA K X (e :: es) fa) (hg : ∀ i, Gl (X i) x := by intro _; rfl) (hn : x ≠ "__name__" := by decide) (hd : (x == ("__debug__" : Str)) = false := by decide) :
 ME K X (.Call (.Name x p) (e :: es) [] pos) (aM F fa) := by
 obtain ⟨r, q1, q2⟩ := q.ex; obtain ⟨u, y1, y2⟩ := y.ex
 exact ⟨_, fun i => HU (q1 i) (hg i) (hm i) hv (y1 i) hn hd (y.st.1 _) (y.st.2.plain _ _), US q2 y2⟩
theorem kH {T : String} {y : Str} {p p' : Pos} (hK : ∀ i, (X i).K = K) (hT : T ∈ asked) (x : ME K X a f) (hs : GU a [.Name y p']) (hm : ∀ i, (X i).mg "isinstance" = none) (hmy : ∀ i, (X i).mg y = none) (hb : bootBuiltins y = some (.type T)) (hg : ∀ i, Gl (X i) "isinstance" := by intro _; rfl) (hgy : ∀ i, Gl (X i) y := by intro _; rfl)
 (hn : y ≠ "__name__" := by decide) (hd : (y == ("__debug__" : Str)) = false := by decide) : ME K X (.Call (.Name "isinstance" p) [a, .Name y p'] [] pos) (rF T f) := by
 obtain ⟨t, x1, x2⟩ := x.ex
 refine ⟨_, fun i => pD (aDg (hK i)) (hg i) (hm i) boot_isinstance (gJ (x1 i) (gJ (rT (v := .ty T) (hgy i) (hmy i) hb rfl hn hd) tO aW) (hs _)) (by decide) (by decide) (hs _) (jW aW pY), YG hT x2⟩
theorem SJ {T U : String} {y z : Str} {p p' p'' p3 : Pos} {k : Nat} (hK : ∀ i, (X i).K = K) (hT : T ∈ asked) (hU : U ∈ asked) (x : ME K X a f) (hs : GU a [.Tuple [.Name y p', .Name z p''] k p3]) (hm : ∀ i, (X i).mg "isinstance" = none) (hmy : ∀ i, (X i).mg y = none) (hmz : ∀ i, (X i).mg z = none)
 (hb : bootBuiltins y = some (.type T)) (hbz : bootBuiltins z = some (.type U)) (hg : ∀ i, Gl (X i) "isinstance" := by intro _; rfl) (hgy : ∀ i, Gl (X i) y := by intro _; rfl) (hgz : ∀ i, Gl (X i) z := by intro _; rfl)
 (hn : y ≠ "__name__" := by decide) (hd : (y == ("__debug__" : Str)) = false := by decide) (hn' : z ≠ "__name__" := by decide) (hd' : (z == ("__debug__" : Str)) = false := by decide) : ME K X (.Call (.Name "isinstance" p) [a, .Tuple [.Name y p', .Name z p''] k p3] [] pos) (ES T U f) := by
 obtain ⟨t, x1, x2⟩ := x.ex
 refine ⟨_, fun i => pD (aCo (hK i)) (hg i) (hm i) boot_isinstance (gJ (x1 i) (gJ (wY (gJ (rT (v := .ty T) (hgy i) (hmy i) hb rfl hn hd) (gJ (rT (v := .ty U) (hgz i) (hmz i) hbz rfl hn' hd') tO aW) aW)) tO uE) (hs _)) (by decide) (by decide) (hs _) (jW uE pY), SR hT hU x2⟩
theorem dZ (x : MT K X a ft) : MT K X (.UnaryOp .Not a pos) (jX ft) := by
 obtain ⟨t, x1, x2⟩ := x.ex
 exact ⟨_, fun i => WN (x1 i), YF x2⟩
theorem iO {rest : List Expr} (x : MT K X a ft) (y : MW K X (.BoolOp .Or (b :: rest) pos) gt) : MW K X (.BoolOp .Or (a :: b :: rest) pos) (gOr ft gt) := by
 obtain ⟨t, x1, x2⟩ := x.ex; obtain ⟨u, y1, y2⟩ := y.ex
 exact ⟨_, fun i => aBV (x1 i) (y1 i), aBZ x2 y2⟩
theorem iX (x : MT K X a ft) : MW K X (.BoolOp .Or [a] pos) ft := by
 obtain ⟨t, x1, x2⟩ := x.ex
 exact ⟨_, fun i => aBc (x1 i), x2⟩
theorem uR (x : MW K X a ft) : MT K X a ft := by
 obtain ⟨t, x1, x2⟩ := x.ex
 exact ⟨_, fun i => (x1 i).pt, x2⟩
theorem bK {op : CmpOp} {k : F2} (q : Q2 K X (compareOp op) k) (x : ME K X a f) (y : ME K X b g) (hm : behindInMarks op b = false := by rfl) : MT K X (.Compare a [op] [b] pos) (gB (fOp k f g)) := by
 obtain ⟨r, q1, q2⟩ := q.ex; obtain ⟨t, x1, x2⟩ := x.ex; obtain ⟨u, y1, y2⟩ := y.ex
 exact ⟨_, fun i => SQ (q1 i) (x1 i) (y1 i) hm, QW (ER q2 x2 y2)⟩
theorem dG (x : ME K X a f) (he : ∀ (env : Env) (whole : Sem Value), isTrue a env whole = (do let v <- whole; standAt a.pos; holding [v] (truthy v)) := by intro _ _; rfl) : MT K X a (gB f) := by
 obtain ⟨t, x1, x2⟩ := x.ex
 exact ⟨_, fun i => YI (x1 i) (he _), XD x2⟩
theorem aAT (hK : ∀ i, (X i).K = K) (x : ME K X a f) (he : ∀ (env : Env) (whole : Sem Value), isTrue a env whole = (do let v <- whole; standAt a.pos; holding [v] (truthy v)) := by intro _ _; rfl) : MT K X a (BP f) := by
 obtain ⟨t, x1, x2⟩ := x.ex
 exact ⟨_, fun i => RX (hK i) (x1 i) (he _), RQ x2⟩
theorem rS {tg : Expr} {p : Pos} (hm : ∀ i, (X i).mg "range" = none) (x : MA K X [a] fa) (hg : ∀ i, Gl (X i) "range" := by intro _; rfl) : MI K X tg (.Call (.Name "range" p) [a] [] pos) (kR fa) := by
 obtain ⟨t, x1, x2⟩ := x.ex
 exact ⟨_, fun i => GA (hg i) (hm i) (x1 i) (x.st.1 _), TV x2⟩
theorem qJ {tg : Expr} (hK : ∀ i, (X i).K = K) (x : ME K X a f) : MI K X tg a (fG f) := by
 obtain ⟨t, x1, x2⟩ := x.ex
 exact ⟨_, fun i => RE (hK i) (x1 i), aAi x2⟩
theorem cP (i : Nat) {x : Str} (hN : ∀ j, (X j).N.Nodup) (hi : ∀ j, (X j).N[i]? = some x := by intro _; rfl) (hx : ∀ j, Loc (X j).env.scope x := by intro _; first | exact Or.inl rfl | exact Or.inr rfl) (hf : ∀ j, (X j).fn x = true \/ (X j).env.scope.names.lookup x = some .local := by intro _; first | exact .inl rfl | exact .inr rfl) :
 MG K X (.Name x pos) (hName i) := ⟨_, fun j => QH (hN j) (hi j) (hx j) (hf j), rY⟩
theorem oB : MGs K X [] qH := ⟨_, fun _ => PF, RP⟩
theorem eO {gf : GF} {gs : GsF} (x : MG K X e gf) (y : MGs K X es gs) (hs : ∀ env : Env, (assignEach (e :: es) env).map (·.2) = assign e env :: (assignEach es env).map (·.2) := by intro _; rfl) : MGs K X (e :: es) (dE gf gs) := by
 obtain ⟨t, x1, x2⟩ := x.ex; obtain ⟨u, y1, y2⟩ := y.ex
 exact ⟨_, fun i => JQ (x1 i) (y1 i) (hs _), IX x2 y2⟩
theorem tH {gs : GsF} {k n : Nat} (hK : ∀ i, (X i).K = K) (hc : ∀ i, (X i).calm = true) (x : MGs K X es gs) (hn : ∀ env : Env, (assignEach es env).length = n := by intro _; rfl) (hst : ∀ env : Env, (assignEach es env).findIdx? (·.1) = none := by intro _; rfl) : MG K X (.Tuple es k pos) (qA n gs) := by
 obtain ⟨t, x1, x2⟩ := x.ex
 exact ⟨_, fun i => RD (hK i) (hc i) (x1 i) (hn _) (hst _), WY x2⟩
theorem IE {s : F3} (q : QS K X s) (x : ME K X a f) (y : ME K X b g) (hs : ∀ (env : Env) (v : Value), assign (.Subscript a b pos) env v = (do
 let ov <- holding [v] (eval a env)
 let iv <- holding [v, ov] (eval b env)
 standAt pos
 holding [v, ov, iv] (setItem ov iv v)
 release [v, ov, iv] []) := by intro _ _; rfl) : MG K X (.Subscript a b pos) (hSub f g s) := by
 obtain ⟨r, q1, q2⟩ := q.ex; obtain ⟨t, x1, x2⟩ := x.ex; obtain ⟨u, y1, y2⟩ := y.ex
 exact ⟨_, fun i => YT (x1 i) (y1 i) (q1 i) (hs _), aAb q2 x2 y2⟩
theorem xW : MF K X [] nU := ⟨_, fun _ => OS, YU⟩
theorem aBf (x : MT K X c ft) : MF K X [c] ft := by
 obtain ⟨t, x1, x2⟩ := x.ex
 exact ⟨_, fun i => MY (x1 i), x2⟩
abbrev LcI (ι : Type) : Type := ι × Addr × Shared × Hp × List Addr × List (Addr × Obj)
def nJ (X : ι -> Cx) (N' : List Str) (scope : Scope) : LcI ι -> Cx := fun j => eF (X j.1) N' scope j.2.1 j.2.2.1 j.2.2.2.1 j.2.2.2.2.1 j.2.2.2.2.2
variable {N' : List Str} {cap : List (Option Nat)} {scope : Scope} {tg iter elt : Expr} {ifs : List Expr} {gf : GF}
theorem KI (hc : ∀ i, (X i).calm = true) (S : ∀ i, LcSc (X i) N' cap scope) (x : MI K X tg iter fa) (y : MG K (nJ X N' scope) tg gf) (z : MF K (nJ X N' scope) ifs ft) (w : ME K (nJ X N' scope) elt f) (hs : ∀ (env : Env) (x : Value), foldedSetIterable iter env x = pure x := by intro _ _; rfl) :
 ME K X (.ListComp elt [⟨tg, iter, ifs, 0⟩] scope pos) (fLc cap fa gf ft f) := by
 obtain ⟨t, x1, x2⟩ := x.ex; obtain ⟨u, y1, y2⟩ := y.ex; obtain ⟨v, z1, z2⟩ := z.ex; obtain ⟨o, w1, w2⟩ := w.ex
 exact ⟨_, fun i => aBo (hc i) (S i) (x1 i) (fun C s H fp pn => y1 (i, C, s, H, fp, pn)) (fun C s H fp pn => z1 (i, C, s, H, fp, pn)) (fun C s H fp pn => w1 (i, C, s, H, fp, pn)) (hs _), VW x2 y2 z2 w2⟩
theorem IG (i : Nat) {x' : Str} {pos' pos'' : Pos} (hN : ∀ j, (X j).N.Nodup) (hc : ∀ i, (X i).calm = true) (S : ∀ i, LcSc (X i) N' cap scope) (x : MI K X tg iter fa) (y : MG K (nJ X N' scope) tg gf) (z : MF K (nJ X N' scope) ifs ft) (w : ME K (nJ X N' scope) elt f)
 (hix : ∀ j, (X j).N[i]? = some x' := by intro _; rfl) (hsw : ∀ j, swapsWith (.ListComp elt [⟨tg, iter, ifs, 0⟩] scope pos) (some (.Name x' pos')) pos''.line (X j).env = pure true := by intro _; rfl) (hx : ∀ j, (X j).env.scope.names.lookup x' = some .local := by intro _; rfl) (hs : ∀ (env : Env) (x : Value), foldedSetIterable iter env x = pure x := by intro _ _; rfl) :
 MS K X (.Assign [.Name x' pos'] (.ListComp elt [⟨tg, iter, ifs, 0⟩] scope pos) pos'') (cN (fLc cap fa gf ft f) (hName i)) := by
 obtain ⟨t, x1, x2⟩ := x.ex; obtain ⟨u, y1, y2⟩ := y.ex; obtain ⟨v, z1, z2⟩ := z.ex; obtain ⟨o, w1, w2⟩ := w.ex
 exact ⟨_, fun j => JJ (hN j) (hix j) (hc j) (S j) (x1 j) (fun C s H fp pn => y1 (j, C, s, H, fp, pn)) (fun C s H fp pn => z1 (j, C, s, H, fp, pn)) (fun C s H fp pn => w1 (j, C, s, H, fp, pn)) (hsw j) (hx j) (hs _), CI (VW x2 y2 z2 w2) rY⟩
variable {st : Stmt} {sts : List Stmt} {sf sg : SF}
theorem bF : ML K X [] bM := ⟨_, fun _ => UC, SY⟩
theorem aO (x : MS K X st sf) : ML K X [st] sf := by
 obtain ⟨t, x1, x2⟩ := x.ex
 exact ⟨_, fun i => FE (x1 i), x2⟩
theorem aL (x : MS K X st sf) (y : ML K X sts sg) : ML K X (st :: sts) (bC sf sg) := by
 obtain ⟨t, x1, x2⟩ := x.ex; obtain ⟨u, y1, y2⟩ := y.ex
 exact ⟨_, fun i => BE (x1 i) (y1 i), aAx x2 y2⟩
theorem aQ (x : ME K X e f) : MS K X (.Return (some e) pos) (bL f) := by
 obtain ⟨t, x1, x2⟩ := x.ex
 exact ⟨_, fun i => aAM (x1 i), aAP x2⟩
theorem RN (x : ME K X e f) (hs : ∀ i, swapsWith e none pos.line (X i).env = pure false := by intro _; rfl) : MS K X (.Expr e pos) (EU f) := by
 obtain ⟨t, x1, x2⟩ := x.ex
 exact ⟨_, fun i => PQ (x1 i) (hs i), RG x2⟩
theorem bZ {sts' : List Stmt} (x : MT K X c ft) (y : ML K X sts sf) (z : ML K X sts' sg) : MS K X (.If c sts sts' pos) (sIf ft sf sg) := by
 obtain ⟨t, x1, x2⟩ := x.ex; obtain ⟨u, y1, y2⟩ := y.ex; obtain ⟨v, z1, z2⟩ := z.ex
 exact ⟨_, fun i => VL (x1 i) (y1 i) (z1 i), aCx x2 y2 z2⟩
theorem AA (hp : ∀ i, PassesOwn (model (X i).prog (X i).w) (X i).A (X i).env (X i).xe) (x : MT K X c ft) (y : ML K X sts sf) : MS K X (.While c sts [] pos) (nR ft sf) := by
 obtain ⟨t, x1, x2⟩ := x.ex; obtain ⟨u, y1, y2⟩ := y.ex
 exact ⟨_, fun i => NK (hp i) (x1 i) (y1 i), NA x2 y2⟩
theorem qI (hp : ∀ i, PassesOwn (model (X i).prog (X i).w) (X i).A (X i).env (X i).xe) (hc : ∀ i, (X i).calm = true) (x : MI K X tg iter fa) (y : MG K X tg gf) (z : ML K X sts sf) (hs : ∀ (env : Env) (x : Value), foldedSetIterable iter env x = pure x := by intro _ _; rfl) : MS K X (.For tg iter sts [] pos) (pB fa gf sf) := by
 obtain ⟨t, x1, x2⟩ := x.ex; obtain ⟨u, y1, y2⟩ := y.ex; obtain ⟨v, z1, z2⟩ := z.ex
 exact ⟨_, fun i => II (hp i) (hc i) (x1 i) (y1 i) (z1 i) (hs _), ZV x2 y2 z2⟩
theorem bJ (i : Nat) {x' : Str} {pos' : Pos} (hN : ∀ j, (X j).N.Nodup) (x : ME K X e f) (hi : ∀ j, (X j).N[i]? = some x' := by intro _; rfl) (hx : ∀ j, Loc (X j).env.scope x' := by intro _; first | exact Or.inl rfl | exact Or.inr rfl) (hs : ∀ j, swapsWith e (some (.Name x' pos')) pos.line (X j).env = pure false := by intro _; rfl)
 (hf : ∀ j, (X j).fn x' = true \/ (X j).env.scope.names.lookup x' = some .local := by intro _; first | exact .inl rfl | exact .inr rfl) : MS K X (.Assign [.Name x' pos'] e pos) (cN f (hName i)) := by
 obtain ⟨t, x1, x2⟩ := x.ex
 exact ⟨_, fun j => OG (hN j) (hi j) (hx j) (x1 j) (hs j) (hf j), CI x2 rY⟩
theorem JF (i j : Nat) {x' y' : Str} {px py pt pt2 : Pos} {kt k2 : Nat} (hc : ∀ j, (X j).calm = true) (hN : ∀ j, (X j).N.Nodup) (x : MA K X [a, b] fa) (hij : i ≠ j := by decide) (hi : ∀ k, (X k).N[i]? = some x' := by intro _; rfl) (hj : ∀ k, (X k).N[j]? = some y' := by intro _; rfl) (hx : ∀ k, (X k).env.scope.names.lookup x' = some .local := by intro _; rfl) (hy : ∀ k, (X k).env.scope.names.lookup y' = some .local := by intro _; rfl)
 (h1 : ∀ k, swappedStores [.Tuple [.Name x' px, .Name y' py] kt pt] (.Tuple [a, b] k2 pt2) (X k).env = pure (some [x', y']) := by intro _; rfl) (h2 : ∀ k, swapsWithSole [.Tuple [.Name x' px, .Name y' py] kt pt] (.Tuple [a, b] k2 pt2) pos.line (X k).env = pure false := by intro _; rfl) :
 MS K X (.Assign [.Tuple [.Name x' px, .Name y' py] kt pt] (.Tuple [a, b] k2 pt2) pos) (AZ i j fa) := by
 obtain ⟨t, x1, x2⟩ := x.ex
 exact ⟨_, fun k => aAt (hc k) (hN k) (hi k) (hj k) hij (hx k) (hy k) (x1 k) (h1 k) (h2 k), WL x2⟩
theorem KN (x : ME K X e f) (y : MG K X tg gf) (h1 : ∀ k, swapsWithSole [tg] e pos.line (X k).env = pure false := by intro _; rfl) (h2 : ∀ k, swappedStores [tg] e (X k).env = pure none := by intro _; rfl) (h3 : ∀ env : Env, (assignEach [tg] env).map (·.2) = [assign tg env] := by intro _; rfl) : MS K X (.Assign [tg] e pos) (cN f gf) := by
 obtain ⟨t, x1, x2⟩ := x.ex; obtain ⟨u, y1, y2⟩ := y.ex
 exact ⟨_, fun k => ZT (x1 k) (y1 k) (h1 k) (h2 k) (h3 _), CI x2 y2⟩
theorem eE (hK : ∀ i, (X i).K = K := by intro _; rfl) : Q2 K X (binaryOp .Add) eU := ⟨_, fun i => aCR (hK i), QG⟩
theorem wJ : Q2 K X (binaryOp .Sub) rE := ⟨_, fun _ => YK, XX⟩
theorem AN : Q2 K X (binaryOp .Mult) AG := ⟨_, fun _ => RC, aAu⟩
theorem DE : Q2 K X (binaryOp .FloorDiv) vE := ⟨_, fun _ => OA, SH⟩
theorem nL : Q2 K X (binaryOp .Mod) mR := ⟨_, fun _ => aAd, YC⟩
theorem mV : Q2 K X (binaryOp .Pow) pO := ⟨_, fun _ => WE, aBa⟩
theorem AK : Q1 K X (unaryOp .USub) wO := ⟨_, fun _ => aAv, aAK⟩
theorem uX : Q2 K X (compareOp .Lt) ltI := ⟨_, fun _ => aCG, aCe⟩
theorem NM : Q2 K X (compareOp .LtE) leI := ⟨_, fun _ => aBq, aBz⟩
theorem aAo : Q2 K X (compareOp .Gt) gtI := ⟨_, fun _ => aCh, aBW⟩
theorem aBl : Q2 K X (compareOp .GtE) geI := ⟨_, fun _ => aBX, aBL⟩
theorem jM (hK : ∀ i, (X i).K = K) (hu : ∀ i, (X i).A.units + 64 < cLine) : Q2 K X (compareOp .Eq) (eqX false) := ⟨_, fun i => kEq (hK i) (hu i), YD⟩
theorem xF (hK : ∀ i, (X i).K = K) (hu : ∀ i, (X i).A.units + 64 < cLine) : Q2 K X (compareOp .NotEq) (eqX true) := ⟨_, fun i => kNe (hK i) (hu i), YV⟩
theorem bU (hK : ∀ i, (X i).K = K := by intro _; rfl) : QI K X ixF := ⟨_, fun i => kIx (hK i), XG⟩
theorem qR (hK : ∀ i, (X i).K = K := by intro _; rfl) : QN K X (.builtin "len") gN := ⟨_, fun i => aCS (hK i), TU⟩
theorem oS (hK : ∀ i, (X i).K = K) : QN K X (.type "tuple") fW := ⟨_, fun i => ZJ (hK i), GM⟩
theorem aBt (hK : ∀ i, (X i).K = K) (hc : ∀ i, (X i).calm = true) : QN K X (.builtin "all") DA := ⟨_, fun i => aCY (hK i) (hc i), QM⟩
theorem UP : QS K X yD := ⟨_, fun _ => set_list, WV⟩
end
section
variable {P : Program} {w : World} {K : PySem.W.Frag} {mg : Str -> Option Value}
theorem Def.okG {base : Heap} {x : Str} {st : Stmt} {N ps : List Str} {k : Nat} {b : SF} {q : Bool} (D : Def K mg x st) (S : aS N ps (aG st))
 (hb : ∀ (kV doc pm : Value) (an : Option Addr) (cdv ct : Value) (us : List Value), us.length = ps.length -> bindArgs (PySem.W.fnOf x x (cW st) (bI st) (aG st) .none kV doc pm an cdv ct) ⟨us, []⟩ = pure (ps.zip us))
 (hbody : ∀ (f : Addr) (cdv : Value) (A : Around) (outer : List Env) (s : Shared) (H : Hp) (E : XK), Room k (A.deeper (envOfC x (aG st) s.heap.objs.size f cdv)) q ->
  ML K (fun _ : Unit => (jB CX0 P w K mg base N x (aG st) f cdv A outer s H E q).nox) (bI st) b) : Callee P w K mg base (k + 1) x ps (spM K (fnF ps.length N.length b)) q :=
 D.okM S hb fun f cdv A outer s H E hr => by
  obtain ⟨t, h1, h2⟩ := (hbody f cdv A outer s H E hr).ex
  exact ⟨t, h1 (), h2⟩
theorem Def.okLG {x p : Str} {st : Stmt} {N : List Str} {k : Nat} {b : SF} {F : FN} (D : Def K mg x st) (S : aS N [p] (aG st)) (hF : F = fnF 1 N.length b)
 (hb : ∀ (kV doc pm : Value) (an : Option Addr) (cdv ct : Value) (us : List Value), us.length = [p].length -> bindArgs (PySem.W.fnOf x x (cW st) (bI st) (aG st) .none kV doc pm an cdv ct) ⟨us, []⟩ = pure ([p].zip us))
 (hbody : ∀ (base : Heap) (f : Addr) (cdv : Value) (A : Around) (outer : List Env) (s : Shared) (H : Hp) (E : XK), Room k (A.deeper (envOfC x (aG st) s.heap.objs.size f cdv)) ->
  ML K (fun _ : Unit => (jB CX0 P w K mg base N x (aG st) f cdv A outer s H E).nox) (bI st) b) :
 ∃ f fd, mg x = some (.ref f) /\ (∀ (s : Shared) (u : Value), BindsTo s fd ⟨[u], []⟩ [(p, u)]) /\ ∀ base, FnOk P w K mg base CX0 (k + 1) f fd [p] (spM K F) :=
 D.okL S hF hb fun base f cdv A outer s H E hr => by
  obtain ⟨t, h1, h2⟩ := (hbody base f cdv A outer s H E hr).ex
  exact ⟨t, h1 (), h2⟩
end
end L2
end
section
set_option Elab.async false
set_option linter.all false
set_option maxRecDepth 100000
set_option maxHeartbeats 4000000
namespace HT
open PySem PyProof.Rows PySem.Spec
section
variable {prog : Program} {w : World} {A : Around} {E : Value -> Shared -> Prop} {s : Shared}
theorem getItem_tuple_whole {t sl : Addr} {items : Array Value} {vl vu : Value} {lo hi : Option Int} {Q : Value -> Shared -> Prop} (ht : IsTup s.heap t items) (hs : s.heap.IsSliceOf sl vl vu .none) (pl : IsPart vl lo) (pu : IsPart vu hi)
 (hw : sIx items.size 0 lo = 0 /\ sIx items.size items.size hi = items.size) (h : Q (.ref t) s) : wpAny (model prog w) A (getItem (.ref t) (.ref sl)) Q E s := by
 obtain ⟨os, hos, hcs, hds⟩ := id hs
 have hTs : s.TypeIs (.ref sl) "slice" := ⟨os, hos, hcs⟩
 unfold getItem
 try with_reducible refine wpAny_holding ?_
 first | refine wpAny_bind (wpAny_pure ?_) | skip
 refine wpAny_bind (wpAny_sequenceKey ht.typeIs (by decide) ?_)
 refine wpAny_bind (wpAny_callSpecial?_slot (name := Str.ofString "__getitem__") ht.typeIs PyProof.Rows.slot_tuple_getitem
  (wpAny_call_entry PyProof.Rows.slot_tuple_getitem ht.typeIs entry_tuple_getitem ?_ (args_tuple_getitem _ _)))
 show wpAny _ _ (Builtin.Tuple.tupleItemsOf (.ref t) >>= _) _ _ s
 refine wpAny_bind (tupleItemsOf_ ht ?_)
 refine wpAny_bind (wpAny_typeOf hTs ?_)
 rw [if_pos (by decide)]
 refine wpAny_bind (jN hs pl pu ?_)
 have hyes : (((sIx items.size 0 lo : Nat) : Int) == 0 && (1 : Int) == 1 && (sIx items.size items.size hi - sIx items.size 0 lo) == items.size) = true := by
  rw [hw.1, hw.2]; simp
 show wpAny _ _ (if (((sIx items.size 0 lo : Nat) : Int) == 0 && (1 : Int) == 1 && (sIx items.size items.size hi - sIx items.size 0 lo) == items.size) = true then _ else _) _ _ s
 rw [if_pos hyes]
 refine wpAny_bind (m := Builtin.Tuple.tupleIsExact (.ref t)) ?_
 unfold Builtin.Tuple.tupleIsExact
 refine wpAny_bind (wpAny_typeOf ht.typeIs (wpAny_pure ?_))
 rw [if_pos (by decide)]
 exact wpAny_bind (wpAny_rule (wpAny_pure ⟨_, rfl, wpAny_pure h⟩))
end
end HT
namespace L2
open PySem PySem.Spec PyProof.Rows
def aCj (K : PySem.W.Frag) : V -> Option Int -> Option Int -> Hp -> VK -> Prop := fun x lo hi H Q => ∃ a xs, x = .ref a /\ SqT K H a xs /\ (HT.sIx xs.length 0 lo = 0 /\ HT.sIx xs.length xs.length hi = xs.length) /\ Q (.ref a) H
theorem KG {X : Cx} : SlR X (aCj X.K) := by
 intro pins s σ H x v vl vu lo hi sl Q I rx hs pl pu h
 obtain ⟨a, xs, rfl, hx, hw, q⟩ := h
 cases rx
 obtain ⟨its, r, ht, hz⟩ := I.tuple hx
 have hlen : its.toArray.size = xs.length := by rw [List.size_toArray]; exact r.length.symm
 refine ⟨"tuple", _, PyProof.Rows.slot_tuple_getitem.lookup, ht.typeIs, ?_⟩
 exact HT.getItem_tuple_whole ht hs pl pu (by rw [hlen]; exact hw) ⟨.ref a, H, I, rfl, q⟩
def eX {α : Type} (xs : List α) (lo hi : Option Int) : List α := (xs.drop (HT.sIx xs.length 0 lo)).take (HT.sIx xs.length xs.length hi - HT.sIx xs.length 0 lo)
abbrev OF := Ga -> Sto -> Option (Option Int × Sto)
def cU : OF := fun _ M => some (none, M)
def asI : CD -> Option Int
 | .d (.int i) => some i
 | _ => none
def gP (f : EF) : OF := fun γ M => (f γ M).bind fun r => (asI r.1).bind fun i => some (some i, r.2)
def slF (x : CD) (lo hi : Option Int) (M : Sto) : Option (CD × Sto) := match x with
 | .d (.list ds) => some (.d (.list (eX ds lo hi)), M)
 | .d (.tuple ds) => some (.d (.tuple (eX ds lo hi)), M)
 | .c i => match M[i]? with
  | some (.lst xs) => (lO (eX xs lo hi)).bind fun ds => some (.d (.list ds), M)
  | _ => none
 | _ => none
def fSl (f : EF) (l u : OF) : EF := fun γ M => (f γ M).bind fun r => (l γ r.2).bind fun p => (u γ p.2).bind fun q => slF r.1 p.1 q.1 q.2
def aAY (K : PySem.W.Frag) : V -> Option Int -> Option Int -> Hp -> VK -> Prop := fun x lo hi H Q => aCL K x lo hi H Q \/ aCs K x lo hi H Q \/ aCj K x lo hi H Q
theorem kSl {X : Cx} {K : PySem.W.Frag} (h : X.K = K) : SlR X (aAY K) := by subst h; exact sl_list.or (sl_tup.or KG)
section
variable {K : PySem.W.Frag}
def SO (K : PySem.W.Frag) (t : TO) (f : OF) : Prop := ∀ γ M b M', f γ M = some (b, M') -> ∀ (W : Wd) (H : Hp) (σ : St) (Q : Option Int -> Hp -> Prop), Good K W M H -> RepS K W γ σ -> (∀ W' H', W.Ext W' -> Good K W' M' H' -> Q b H') -> t σ H Q
theorem TZ : SO K DZ cU := by
 intro γ M x M' hh W H σ Q G R k
 cases hh
 exact k W H (.refl _) G
theorem aBe {x : CD} {i : Int} (h : asI x = some i) : x = .d (.int i) := by
 cases x with
 | c n => cases h
 | d x => cases x <;> first | cases h; rfl | cases h
theorem RT {ta : TE} {f : EF} (a : SE K ta f) : SO K (VD ta) (gP f) := by
 intro γ M x M' hh W H σ Q G R k
 obtain ⟨⟨y, M1⟩, h1, hh⟩ := aH hh
 obtain ⟨i, h2, hh⟩ := aH hh
 cases hh
 refine a _ _ _ _ h1 W H σ _ G R fun v W1 H1 e1 G1 r1 => ?_
 have hy : y = _ := aBe h2
 subst hy
 exact ⟨i, r1, k W1 H1 e1 G1⟩
theorem RepAll.drop {H : Hp} : ∀ {ds : List PyData} {vs : List V} (n : Nat), RepAll K H ds vs -> RepAll K H (ds.drop n) (vs.drop n)
 | _, _, 0, h => h
 | [], vs, n + 1, h => by rw [show vs = [] from h]; rfl
 | d :: ds, vs, n + 1, h => by
  obtain ⟨v, r, rfl, _, h3⟩ := h
  exact RepAll.drop n h3
theorem RepAll.take {H : Hp} : ∀ {ds : List PyData} {vs : List V} (n : Nat), RepAll K H ds vs -> RepAll K H (ds.take n) (vs.take n)
 | _, _, 0, h => rfl
 | [], vs, n + 1, h => by rw [show vs = [] from h]; rfl
 | d :: ds, vs, n + 1, h => by
  obtain ⟨v, r, rfl, h2, h3⟩ := h
  exact ⟨v, r.take n, rfl, h2, RepAll.take n h3⟩
theorem RepAll.cut {H : Hp} {ds : List PyData} {vs : List V} (h : RepAll K H ds vs) (lo hi : Option Int) : RepAll K H (eX ds lo hi) (pM vs lo hi) := by
 unfold eX pM
 rw [h.length]
 exact (h.drop _).take _
theorem sT {α β : Type} {R : α -> β -> Prop} : ∀ {xs : List α} {ys : List β} (n : Nat), Paired R xs ys -> Paired R (xs.drop n) (ys.drop n)
 | _, _, 0, h => h
 | _, _, _ + 1, .nil => .nil
 | _, _, n + 1, .cons _ t => sT n t
theorem tG {α β : Type} {R : α -> β -> Prop} : ∀ {xs : List α} {ys : List β} (n : Nat), Paired R xs ys -> Paired R (xs.take n) (ys.take n)
 | _, _, 0, h => .nil
 | _, _, _ + 1, .nil => .nil
 | _, _, n + 1, .cons r t => .cons r (tG n t)
theorem GT {W : Wd} {xs : List CD} {vs : List V} (h : RepVs K W xs vs) (lo hi : Option Int) : RepVs K W (eX xs lo hi) (pM vs lo hi) := by
 unfold eX pM
 rw [Paired.len h]
 exact tG _ (sT _ h)
theorem LX {x : CD} {lo hi : Option Int} {M : Sto} {z : CD} {M' : Sto} (h : slF x lo hi M = some (z, M')) {W : Wd} {H : Hp} {v : V} {Q : VK} (G : Good K W M H) (rx : RepV K W x v) (k : ∀ w W' H', W.Ext W' -> Good K W' M' H' -> RepV K W' z w -> Q w H') : aAY K v lo hi H Q := by
 unfold slF at h
 split at h
 · rename_i ds
   cases h
   obtain ⟨p, us, rfl, hq, hr⟩ := (show ∃ a us, _ = V.ref a /\ SqL K W.F a us /\ RepAll K W.F ds us from rx)
   refine .inl ⟨p, us, rfl, G.fh.seq hq, fun l hl => ?_⟩
   obtain ⟨e2, G2⟩ := G.lay (o := .lst (pM us lo hi)) hl
   exact k _ _ _ e2 G2 ⟨l, _, rfl, SqL.of aT, RepAll.same e2.ff _ _ (hr.cut lo hi)⟩
 · rename_i ds
   cases h
   obtain ⟨p, us, rfl, hq, hr⟩ := (show ∃ a us, _ = V.ref a /\ SqT K W.F a us /\ RepAll K W.F ds us from rx)
   by_cases hw : HT.sIx us.length 0 lo = 0 /\ HT.sIx us.length us.length hi = us.length
   · refine .inr (.inr ⟨p, us, rfl, G.fh.seqT hq, hw, ?_⟩)
     have e : eX ds lo hi = ds := by
      unfold eX
      rw [hr.length, hw.1, hw.2, <- hr.length]
      simp
     rw [e] at k
     exact k _ W H (.refl _) G ⟨p, us, rfl, hq, hr⟩
   · refine .inr (.inl ⟨p, us, rfl, G.fh.seqT hq, hw, fun l hl => ?_⟩)
     obtain ⟨e2, G2⟩ := G.lay (o := .tup (pM us lo hi)) hl
     exact k _ _ _ e2 G2 ⟨l, _, rfl, SqT.of aT, RepAll.same e2.ff _ _ (hr.cut lo hi)⟩
 · rename_i i
   split at h
   · rename_i xs hx
     obtain ⟨ds, h1, h⟩ := aH h
     cases h
     obtain ⟨us, hv, hr⟩ := G.lstAt hx
     rw [rx.2]
     refine .inl ⟨_, us, rfl, SqL.of hv, fun l hl => ?_⟩
     obtain ⟨e2, G2⟩ := G.lay (o := .lst (pM us lo hi)) hl
     exact k _ _ _ e2 G2 ⟨l, _, rfl, SqL.of aT, RepAll.same e2.ff _ _ (fI h1 (GT hr lo hi))⟩
   · cases h
 · cases h
theorem aBK {ta : TE} {f : EF} {tl th : TO} {l u : OF} (a : SE K ta f) (b : SO K tl l) (c : SO K th u) : SE K (tSl (aAY K) ta tl th) (fSl f l u) := by
 intro γ M x M' hh W H σ Q G R k
 obtain ⟨⟨y, M1⟩, h1, hh⟩ := aH hh
 obtain ⟨⟨p, M2⟩, h2, hh⟩ := aH hh
 obtain ⟨⟨q, M3⟩, h3, hh⟩ := aH hh
 refine a _ _ _ _ h1 W H σ _ G R fun v W1 H1 e1 G1 r1 => ?_
 refine b _ _ _ _ h2 W1 H1 σ _ G1 (R.up e1) fun W2 H2 e2 G2 => ?_
 refine c _ _ _ _ h3 W2 H2 σ _ G2 (R.up (e1.trans e2)) fun W3 H3 e3 G3 => ?_
 exact LX hh G3 (r1.up (e2.trans e3)) fun w W4 H4 e4 G4 r4 => k w W4 H4 (((e1.trans e2).trans e3).trans e4) G4 r4
def MB : FN := fun xs M => match xs with
 | [.d (.int i)] => some (.d (.int i), M)
 | [.d (.bool b)] => some (.d (.int (if b then 1 else 0)), M)
 | _ => none
theorem ZX : PN K (fun xs H Q => (∃ i, xs = [.int i] /\ Q (.int i) H) \/ ∃ k, xs = [.bl k] /\ Q (.int (if k then 1 else 0)) H) MB := by
 intro xs M z M' h W H vs Q G r k
 unfold MB at h
 split at h
 · rename_i i
   cases h
   rcases r with _ | ⟨r1, _ | _⟩
   exact .inl ⟨i, by rw [show _ = V.int i from r1], k _ W H (.refl _) G rfl⟩
 · rename_i b
   cases h
   rcases r with _ | ⟨r1, _ | _⟩
   exact .inr ⟨b, by rw [show _ = V.bl b from r1], k _ W H (.refl _) G rfl⟩
 · cases h
def tyB (T : String) (M : Sto) : CD -> Bool
 | .d (.list _) => T == "list"
 | .d (.str _) => T == "str"
 | .c i => match M[i]? with
  | some (.lst _) => T == "list"
  | some (.dk _) => T == "dict"
  | some (.dt _) => T == "dict"
  | _ => false
 | _ => false
theorem aAI {T : String} {M : Sto} {x : CD} {W : Wd} {H : Hp} {v : V} (h : tyB T M x = true) (G : Good K W M H) (r : RepV K W x v) : tyV K T v H := by
 unfold tyB at h
 split at h
 · rename_i ds
   obtain ⟨p, us, rfl, hq, hr⟩ := (show ∃ a us, _ = V.ref a /\ SqL K W.F a us /\ RepAll K W.F ds us from r)
   exact .inl ⟨eq_of_beq h, us, G.fh.seq hq⟩
 · rename_i x
   rw [show v = .str x from r]
   exact eq_of_beq h
 · rename_i i
   rw [r.2]
   split at h
   · rename_i xs hx
     obtain ⟨us, hv, hr⟩ := G.lstAt hx
     exact .inl ⟨eq_of_beq h, us, SqL.of hv⟩
   · rename_i kvs hx
     obtain ⟨_, o, g2, g3⟩ := G.cs i _ hx (by intro z; cases z)
     cases o with
     | dK us => exact .inr (.inr (.inl ⟨eq_of_beq h, .inl ⟨us, g2⟩⟩))
     | _ => exact False.elim g3
   · rename_i kvs hx
     obtain ⟨_, o, g2, g3⟩ := G.cs i _ hx (by intro z; cases z)
     cases o with
     | dT us => exact .inr (.inr (.inl ⟨eq_of_beq h, .inr ⟨us, g2⟩⟩))
     | _ => exact False.elim g3
   · cases h
 · cases h
abbrev FM := CD -> List CD -> Sto -> Option (CD × Sto)
def EO (T : String) (h : FM) (f : EF) (fa : AF) : EF := fun γ M => (f γ M).bind fun r => if tyB T r.2 r.1 = true then (fa γ r.2).bind fun q => h r.1 q.1 q.2 else none
def PM (K : PySem.W.Frag) (r : V -> List V -> Hp -> VK -> Prop) (f : FM) : Prop := ∀ x xs M z M', f x xs M = some (z, M') -> ∀ (W : Wd) (H : Hp) (v : V) (vs : List V) (Q : VK), Good K W M H -> RepV K W x v -> RepVs K W xs vs -> (∀ w W' H', W.Ext W' -> Good K W' M' H' -> RepV K W' z w -> Q w H') -> r v vs H Q
theorem RR {T : String} {r : V -> List V -> Hp -> VK -> Prop} {h : FM} {ta : TE} {f : EF} {tA : TA} {fa : AF} (p : PM K r h) (a : SE K ta f) (b : SA K tA fa) : SE K (tBM K T r ta tA) (EO T h f fa) := by
 intro γ M x M' hh W H σ Q G R k
 obtain ⟨⟨y, M1⟩, h1, hh⟩ := aH hh
 by_cases hT : tyB T M1 y = true
 · have hh : (if tyB T M1 y = true then (fa γ M1).bind fun q => h y q.1 q.2 else none) = some (x, M') := hh
   rw [if_pos hT] at hh
   obtain ⟨⟨ys, M2⟩, h2, hh⟩ := aH hh
   refine a _ _ _ _ h1 W H σ _ G R fun v W1 H1 e1 G1 r1 => ⟨aAI hT G1 r1, ?_⟩
   refine b _ _ _ _ h2 W1 H1 σ _ G1 (R.up e1) fun vs W2 H2 e2 G2 r2 => ?_
   exact p _ _ _ _ _ hh W2 H2 v vs Q G2 (r1.up e2) r2 fun w W3 H3 e3 G3 r3 => k w W3 H3 ((e1.trans e2).trans e3) G3 r3
 · have hh : (if tyB T M1 y = true then (fa γ M1).bind fun q => h y q.1 q.2 else none) = some (x, M') := hh
   rw [if_neg hT] at hh; cases hh
def mQ : FM := fun x ys M => match x, ys with
 | .c i, [y] => match M[i]? with
  | some (.lst xs) => if xs.length < sizeLine then some (.d .none, M.set i (.lst (xs ++ [y]))) else none
  | _ => none
 | _, _ => none
theorem HG : PM K DO mQ := by
 intro x ys M z M' h W H v vs Q G rx rs k
 unfold mQ at h
 split at h
 · rename_i i y
   split at h
   · rename_i xs hx
     by_cases hl : xs.length < sizeLine
     · rw [if_pos hl] at h
       cases h
       obtain ⟨us, hv, hr⟩ := G.lstAt hx
       rcases rs with _ | ⟨r1, _ | _⟩
       refine ⟨W.α i, us, _, rx.2, rfl, hv, by rw [<- Paired.len hr]; exact hl, ?_⟩
       exact k _ W _ (.refl _) (G.set hx (by intro q; cases q) (c' := .lst (xs ++ [y])) (show RepVs K W _ _ from Paired.app hr (.cons r1 .nil))) rfl
     · rw [if_neg hl] at h; cases h
   · cases h
 · cases h
end
section
variable {ι : Type} {K : PySem.W.Frag} {X : ι -> Cx} {a b c e o : Expr} {es : List Expr} {f g h : EF} {fa : AF} {pos : Pos}
structure MO (K : PySem.W.Frag) (X : ι -> Cx) (e : Option Expr) (f : OF) : Prop where
 ex : ∃ t, (∀ i, PO (X i) e t) /\ SO K t f
theorem gE : MO K X none cU := ⟨_, fun _ => OZ, TZ⟩
theorem gG (x : ME K X e f) : MO K X (some e) (gP f) := by
 obtain ⟨t, x1, x2⟩ := x.ex
 exact ⟨_, fun i => RA (x1 i), RT x2⟩
theorem mU {lo hi : Option Expr} {l u : OF} {p2 : Pos} (hK : ∀ i, (X i).K = K) (x : ME K X a f) (y : MO K X lo l) (z : MO K X hi u) : ME K X (.Subscript a (.Slice lo hi none p2) pos) (fSl f l u) := by
 obtain ⟨t, x1, x2⟩ := x.ex; obtain ⟨t', y1, y2⟩ := y.ex; obtain ⟨t'', z1, z2⟩ := z.ex
 exact ⟨_, fun i => IQ (kSl (hK i)) (x1 i) (y1 i) (z1 i), aBK x2 y2 z2⟩
theorem aBT : QN K X (.type "int") MB := ⟨_, fun _ => GH, ZX⟩
theorem GK {apos cpos : Pos} (hK : ∀ i, (X i).K = K) (x : ME K X o f) (y : MA K X [e] fa) (hb : ∀ env : Env, attributeBase o "append" env (eval o env) = eval o env := by intro _; rfl) (hl : (apos.endLine == cpos.line) = true := by rfl) :
 ME K X (.Call (.Attribute o "append" apos) [e] [] cpos) (EO "list" mQ f fa) := by
 obtain ⟨t, x1, x2⟩ := x.ex; obtain ⟨u, y1, y2⟩ := y.ex
 refine ⟨_, fun i => ?_, RR HG x2 y2⟩
 have := aBA PySem.F.plainAttrs_list PySem.F.slot_list_append PySem.F.type_list_append GQ (x1 i) (y1 i) (apos := apos) (cpos := cpos) (hb _) (by rw [y.st.1]; rfl) hl (y.st.1 _) (y.st.2.plain _ _)
 rw [hK i] at this
 exact this
end
end L2
end
section
set_option Elab.async false
set_option linter.all false
set_option maxRecDepth 100000
set_option maxHeartbeats 4000000
namespace L2
open PySem PySem.Spec PyProof.Rows
theorem Def.okNone {P : Program} {w : World} {K : PySem.W.Frag} {mg : Str -> Option Value} {base : Heap} {x : Str} {st : Stmt} {N ps : List Str} {k : Nat} (D : Def K mg x st) (S : aS N ps (aG st))
 (hb : ∀ (kV doc pm : Value) (an : Option Addr) (cdv ct : Value) (us : List Value), us.length = ps.length -> bindArgs (PySem.W.fnOf x x (cW st) (bI st) (aG st) .none kV doc pm an cdv ct) ⟨us, []⟩ = pure (ps.zip us)) :
 Callee P w K mg base (k + 1) x ps (spM K fun _ _ => none) := by
 refine D.ok S hb (fun vs H Q E h => ?_) fun f cdv A outer s H vs Q E hr h => ?_
 · obtain ⟨xs, M, W, y, M', G, R, hf, _⟩ := h; cases hf
 · obtain ⟨xs, M, W, y, M', G, R, hf, _⟩ := h; cases hf
theorem Good.freeze {K : PySem.W.Frag} {W : Wd} {M : Sto} {H : Hp} (g : Good K W M H) {i : Nat} {c : Cell} {o' : HO} (hi : M[i]? = some c) (hc : c ≠ .dead) :
 W.Ext { W with F := upd W.F (W.α i) o' } /\ Good K { W with F := upd W.F (W.α i) o' } (M.set i .dead) (upd H (W.α i) o') := by
 obtain ⟨h1, o, h2, h3⟩ := g.cs i c hi hc
 have lt : i < M.length := (List.getElem?_eq_some_iff.mp hi).1
 have e : W.Ext { W with F := upd W.F (W.α i) o' } := ⟨Same.upd h1, Nat.le_refl _, fun _ _ => rfl⟩
 have at_ : ∀ j d, (M.set i .dead)[j]? = some d -> d ≠ .dead -> j ≠ i /\ M[j]? = some d := fun j d h hd => by
  by_cases q : i = j
  · subst q; rw [List.getElem?_set_self lt] at h; exact absurd (Option.some.inj h).symm hd
  · rw [List.getElem?_set_ne q] at h; exact ⟨fun z => q z.symm, h⟩
 refine ⟨e, ?_, by show W.n = _; rw [g.n, List.length_set], fun j d hj hd => ?_, fun j k d1 d2 hj hk e1 e2 he => ?_⟩
 · intro b u hb
   have hb : upd W.F (W.α i) o' b = some u := hb
   by_cases q : b = W.α i
   · subst q; rw [aT] at hb; rw [aT]; exact hb
   · rw [aI q] at hb; rw [aI q]; exact g.fh b u hb
 · obtain ⟨q, h⟩ := at_ j d hj hd
   obtain ⟨k1, u, k2, k3⟩ := g.cs j d h hd
   have ne : W.α j ≠ W.α i := fun z => q (g.inj j i d c h hi hd hc z)
   exact ⟨by show upd W.F (W.α i) o' (W.α j) = none; rw [aI ne]; exact k1, u, by rw [aI ne]; exact k2, k3.up e⟩
 · exact g.inj j k d1 d2 (at_ j d1 hj e1).2 (at_ k d2 hk e2).2 e1 e2 he
def yE : EF := fun _ M => some (.d (.dict []), M)
theorem MU {K : PySem.W.Frag} : SE K LU yE := by
 intro γ M x M' hh W H σ Q G R k
 cases hh
 intro p hp
 obtain ⟨e2, G2⟩ := G.lay (o := .dK []) hp
 exact k _ _ _ e2 G2 ⟨p, [], rfl, aT, rfl⟩
end L2
end
section
set_option Elab.async false
set_option linter.all false
set_option maxRecDepth 100000
set_option maxHeartbeats 4000000
namespace L2
open PySem PySem.Spec PyProof.Rows
def xE : List (EF × EF) -> Ga -> Sto -> Option (List (CD × CD) × Sto)
 | [], _, M => some ([], M)
 | (f, g) :: r, γ, M => (f γ M).bind fun a => (g γ a.2).bind fun b => (xE r γ b.2).bind fun q => some ((a.1, b.1) :: q.1, q.2)
def keyOf : CD -> Option Key
 | .d (.int i) => some (.inl i)
 | .d (.str x) => some (.inr x)
 | _ => none
def keyed : List (CD × CD) -> Option (List (Key × PyData))
 | [] => some []
 | (k, .d x) :: r => (keyOf k).bind fun k' => (keyed r).bind fun q => some ((k', x) :: q)
 | _ => none
def BC (fs : List (EF × EF)) : EF := fun γ M => (xE fs γ (M ++ [.dk []])).bind fun r => match r.2[M.length]? with
 | some (.dk []) => (keyed r.1).bind fun kvs => if kvs.length <= 15 /\ (kvs.map (·.1)).Nodup then some (.d (.dict (kvs.map fun p => (IY p.1, p.2))), r.2.set M.length .dead) else none
 | _ => none
section
variable {K : PySem.W.Frag}
def SPs (K : PySem.W.Frag) : List (TE × TE) -> List (EF × EF) -> Prop := Paired fun t f => SE K t.1 f.1 /\ SE K t.2 f.2
theorem MR : ∀ {ts : List (TE × TE)} {fs : List (EF × EF)}, SPs K ts fs -> ∀ {γ : Ga} {M : Sto} {xs : List (CD × CD)} {M' : Sto}, xE fs γ M = some (xs, M') -> ∀ {W : Wd} {H : Hp} {σ : St} {Q : List (V × V) -> Hp -> Prop}, Good K W M H -> RepS K W γ σ ->
 (∀ vs W' H', W.Ext W' -> Good K W' M' H' -> Paired (fun a b => RepV K W' a.1 b.1 /\ RepV K W' a.2 b.2) xs vs -> Q vs H') -> xN ts σ H Q
 | _, _, .nil, γ, M, xs, M', h, W, H, σ, Q, G, R, k => by
  cases h
  exact k [] W H (.refl _) G .nil
 | _, _, .cons s1 s2, γ, M, xs, M', h, W, H, σ, Q, G, R, k => by
  obtain ⟨⟨a, M1⟩, h1, h⟩ := aH h
  obtain ⟨⟨b, M2⟩, h2, h⟩ := aH h
  obtain ⟨⟨q, M3⟩, h3, h⟩ := aH h
  cases h
  refine s1.1 _ _ _ _ h1 W H σ _ G R fun v W1 H1 e1 G1 r1 => ?_
  refine s1.2 _ _ _ _ h2 W1 H1 σ _ G1 (R.up e1) fun u W2 H2 e2 G2 r2 => ?_
  refine MR s2 h3 G2 (R.up (e1.trans e2)) fun vs W3 H3 e3 G3 r3 => ?_
  exact k _ W3 H3 ((e1.trans e2).trans e3) G3 (.cons ⟨r1.up (e2.trans e3), r2.up e3⟩ r3)
theorem vW {W : Wd} {x : CD} {k : Key} {v : V} (h : keyOf x = some k) (r : RepV K W x v) : v = kV k := by
 unfold keyOf at h
 split at h
 · cases h; exact r
 · cases h; exact r
 · cases h
theorem vL {W : Wd} : ∀ {xs : List (CD × CD)} {kvs : List (Key × PyData)} {vs : List (V × V)}, keyed xs = some kvs -> Paired (fun a b => RepV K W a.1 b.1 /\ RepV K W a.2 b.2) xs vs ->
 ∃ us : List (Key × V), vs = us.map (fun p => (kV p.1, p.2)) /\ us.map (·.1) = kvs.map (·.1) /\ RepKV K W.F (kvs.map fun p => (IY p.1, p.2)) us
 | [], kvs, vs, h, r => by
  cases h; cases r
  exact ⟨[], rfl, rfl, rfl⟩
 | (k, .c _) :: _, kvs, vs, h, r => by cases h
 | (k, .d x) :: xs, kvs, vs, h, r => by
  obtain ⟨k', h1, h⟩ := aH (show (keyOf k).bind _ = _ from h)
  obtain ⟨q, h2, h⟩ := aH h
  cases h
  cases r with
  | @cons _ b _ vs' r1 r2 =>
   obtain ⟨us, e1, e2, e3⟩ := vL h2 r2
   refine ⟨(k', b.2) :: us, ?_, ?_, k', b.2, us, rfl, rfl, r1.2, e3⟩
   · rw [List.map_cons, <- e1, <- vW h1 r1.1]
   · rw [List.map_cons, List.map_cons, e2]
theorem wG : ∀ (more acc : List (Key × V)), ((acc ++ more).map (·.1)).Nodup -> lB acc more = acc ++ more
 | [], acc, _ => by simp [lB]
 | p :: more, acc, h => by
  have hn : jA acc p.1 = none := by
   unfold jA
   rw [Option.map_eq_none_iff, List.find?_eq_none]
   intro x hx hd
   have : x.1 = p.1 := of_decide_eq_true hd
   rw [List.map_append, List.nodup_append] at h
   exact h.2.2 x.1 (List.mem_map_of_mem hx) p.1 (by simp) this
  show lB (putK acc p.1 p.2) more = _
  rw [ID _ hn, wG more _ (by rw [List.append_assoc]; exact h), List.append_assoc]
  rfl
theorem SB {ts : List (TE × TE)} {fs : List (EF × EF)} (sp : SPs K ts fs) : SE K (UO ts) (BC fs) := by
 intro γ M x M' hh W H σ Q G R k
 obtain ⟨⟨xs, M1⟩, h1, hh⟩ := aH hh
 intro p hp
 have G1 := G.new hp (c := .dk []) (o := .dK []) (show Paired _ [] [] from .nil)
 have e1 := W.ext_more p
 refine MR sp h1 G1 (R.up e1) fun vs W2 H2 e2 G2 r2 => ?_
 dsimp only at hh
 split at hh
 · rename_i hM
   obtain ⟨kvs, h2, hh⟩ := aH hh
   by_cases hc : kvs.length <= 15 /\ (kvs.map (·.1)).Nodup
   · rw [if_pos hc] at hh
     cases hh
     have al : W2.α M.length = p := by
      rw [e2.al M.length (by show M.length < W.n + 1; rw [G.n]; exact Nat.lt_succ_self _)]
      show (if M.length = W.n then p else _) = p
      rw [if_pos G.n.symm]
     obtain ⟨_, o, g2, g3⟩ := G2.cs _ _ hM (by intro z; cases z)
     rw [al] at g2
     have ho : o = .dK [] := by
      cases o with
      | dK us => cases g3; rfl
      | _ => exact False.elim g3
     subst ho
     obtain ⟨us, z1, z2, z3⟩ := vL h2 r2
     have nd : (us.map (·.1)).Nodup := by rw [z2]; exact hc.2
     have hl : us.length <= 15 := by
      have := congrArg List.length z2
      rw [List.length_map, List.length_map] at this
      omega
     refine ⟨g2, us, z1, hl, ?_⟩
     rw [wG us [] (by simpa using nd), List.nil_append]
     obtain ⟨e3, G3⟩ := G2.freeze (o' := .dK us) hM (by intro z; cases z)
     rw [al] at e3 G3
     exact k _ _ _ ((e1.trans e2).trans e3) G3 ⟨p, us, rfl, aT, RepKV.same e3.ff _ _ z3⟩
   · rw [if_neg hc] at hh; cases hh
 · cases hh
end
section
variable {ι : Type} {K : PySem.W.Frag} {X : ι -> Cx}
structure MD (K : PySem.W.Frag) (X : ι -> Cx) (pos : Pos) (ks : List (Option Expr)) (vs : List Expr) (fs : List (EF × EF)) : Prop where
 ex : ∃ ts, (∀ i, PPs (X i) pos ks vs ts) /\ SPs K ts fs
theorem aAB {pos : Pos} : MD K X pos [] [] [] := ⟨_, fun _ => RV, .nil⟩
theorem EW {pos : Pos} {k v : Expr} {ks : List (Option Expr)} {vs : List Expr} {f g : EF} {fs : List (EF × EF)} (x : ME K X k f) (y : ME K X v g) (z : MD K X pos ks vs fs) : MD K X pos (some k :: ks) (v :: vs) ((f, g) :: fs) := by
 obtain ⟨t, x1, x2⟩ := x.ex; obtain ⟨u, y1, y2⟩ := y.ex; obtain ⟨o, z1, z2⟩ := z.ex
 exact ⟨_, fun i => KR (x1 i) (y1 i) (z1 i), .cons ⟨x2, y2⟩ z2⟩
theorem QT {pos : Pos} {ks : List (Option Expr)} {vs : List Expr} {fs : List (EF × EF)} (x : MD K X pos ks vs fs) (hall : ks.all (·.isSome) = true := by rfl) (hl : ks.length = vs.length := by rfl) (h0 : ks ≠ [] := by simp) (h15 : ks.length <= 15 := by simp) : ME K X (.Dict ks vs pos) (BC fs) := by
 obtain ⟨t, x1, x2⟩ := x.ex
 exact ⟨_, fun i => UJ (x1 i) hall hl h0 h15, SB x2⟩
theorem zV {pos : Pos} : ME K X (.Dict [] [] pos) yE := ⟨_, fun _ => JY, MU⟩
end
end L2
end
section
set_option Elab.async false
set_option linter.all false
set_option maxRecDepth 100000
set_option maxHeartbeats 4000000
namespace L2
open PySem PySem.Spec PyProof.Rows
mutual
def wt : PyData -> Nat
 | .none => 4
 | .bool _ => 5
 | .int _ => 2000
 | .str x => (reprText x).length
 | .list xs => iR xs + 3
 | .tuple xs => iR xs + 3
 | .dict kvs => aBk kvs + 3
def iR : List PyData -> Nat
 | [] => 0
 | x :: xs => wt x + 2 + iR xs
def aBk : List (PyData × PyData) -> Nat
 | [] => 0
 | (k, v) :: r => wt k + wt v + 4 + aBk r
end
mutual
def oks : PyData -> Bool
 | .none => true
 | .bool _ => true
 | .int i => decide (i.natAbs < 2 ^ 1900)
 | .str _ => true
 | .list xs => iD xs
 | .tuple xs => iD xs
 | .dict kvs => VJ kvs
def iD : List PyData -> Bool
 | [] => true
 | x :: xs => oks x && iD xs
def VJ : List (PyData × PyData) -> Bool
 | [] => true
 | (k, v) :: r => oks k && oks v && VJ r
end
structure Fit (n m : Nat) (d : PyData) : Prop where
 ok : oks d = true
 wt : wt d <= n
 dp : d.depth <= m
theorem Fit.mono {n m n' m' : Nat} {d : PyData} (f : Fit n m d) (hn : n <= n') (hm : m <= m') : Fit n' m' d := ⟨f.ok, Nat.le_trans f.wt hn, Nat.le_trans f.dp hm⟩
end L2
end
section
set_option Elab.async false
set_option linter.all false
set_option maxRecDepth 100000
set_option maxHeartbeats 4000000
namespace L2
open PySem PySem.Spec PyProof.Rows
def oW (f : Str) (v : CD) : List (Str × CD) -> List (Str × CD)
 | [] => [(f, v)]
 | (g, x) :: r => if g = f then (g, v) :: r else (g, x) :: oW f v r
section
variable {K : PySem.W.Frag}
theorem sP {W : Wd} {f : Str} {x : CD} {v : V} (r : RepV K W x v) : ∀ {fs : List (Str × CD)} {us : List (Str × V)}, Paired (fun p q => p.1 = q.1 /\ RepV K W p.2 q.2) fs us -> Paired (fun p q => p.1 = q.1 /\ RepV K W p.2 q.2) (oW f x fs) (jJ f v us)
 | _, _, .nil => .cons ⟨rfl, r⟩ .nil
 | (g, y) :: fs, (g', u) :: us, .cons h t => by
  obtain ⟨h1, h2⟩ := h
  have h1 : g = g' := h1
  subst h1
  unfold oW jJ
  by_cases e : g = f
  · rw [if_pos e, if_pos e]; exact .cons ⟨rfl, r⟩ t
  · rw [if_neg e, if_neg e]; exact .cons ⟨rfl, h2⟩ (sP r t)
theorem mK {W : Wd} {f : Str} {x : CD} : ∀ {fs : List (Str × CD)} {us : List (Str × V)}, Paired (fun p q => p.1 = q.1 /\ RepV K W p.2 q.2) fs us -> fs.lookup f = some x -> ∃ v, us.lookup f = some v /\ RepV K W x v
 | _, _, .nil, h => by cases h
 | (g, y) :: fs, (g', u) :: us, .cons h t, e => by
  obtain ⟨h1, h2⟩ := h
  have h1 : g = g' := h1
  subst h1
  rw [List.lookup_cons] at e ⊢
  by_cases q : (f == g) = true
  · rw [q] at e ⊢; cases e; exact ⟨u, rfl, h2⟩
  · have q' : (f == g) = false := by simpa using q
    rw [q'] at e ⊢; exact mK t e
theorem Good.objAt {W : Wd} {M : Sto} {H : Hp} {i : Nat} {nm : Str} {fs : List (Str × CD)} (G : Good K W M H) (h : M[i]? = some (.obj nm fs)) : ∃ dx us, H (W.α i) = some (.ins (aP K nm) dx us) /\ Paired (fun p q => p.1 = q.1 /\ RepV K W p.2 q.2) fs us := by
 obtain ⟨_, o, h2, h3⟩ := G.cs i _ h (by intro z; cases z)
 cases o with
 | ins C dx us =>
  obtain ⟨e, p⟩ := h3
  subst e
  exact ⟨dx, us, h2, p⟩
 | _ => exact False.elim h3
theorem Good.extra {W : Wd} {M : Sto} {H : Hp} (g : Good K W M H) {p : Addr} {o : HO} (hp : H p = none) : Good K W M (upd H p o) := by
 refine ⟨fun b u hb => ?_, g.n, fun i c hi hc => ?_, g.inj⟩
 · have := g.fh b u hb
   rw [aI (aN this hp)]; exact this
 · obtain ⟨h1, o', h2, h3⟩ := g.cs i c hi hc
   exact ⟨h1, o', by rw [aI (aN h2 hp)]; exact h2, h3⟩
def objOf (nm : Str) (M : Sto) : CD -> Option (Nat × List (Str × CD))
 | .c i => match M[i]? with
  | some (.obj nm' fs) => if nm' = nm then some (i, fs) else none
  | _ => none
 | _ => none
theorem oO {nm : Str} {M : Sto} {x : CD} {i : Nat} {fs : List (Str × CD)} (h : objOf nm M x = some (i, fs)) : x = .c i /\ M[i]? = some (.obj nm fs) := by
 unfold objOf at h
 split at h
 · rename_i j
   split at h
   · rename_i nm' fs' hj
     by_cases e : nm' = nm
     · rw [if_pos e] at h; cases h; subst e; exact ⟨rfl, hj⟩
     · rw [if_neg e] at h; cases h
   · cases h
 · cases h
def HF (nm f : Str) (e : EF) : EF := fun γ M => (e γ M).bind fun r => (objOf nm r.2 r.1).bind fun p => (p.2.lookup f).bind fun v => some (v, r.2)
theorem YQ {nm f : Str} {ta : TE} {e : EF} (c : Cls K (aP K nm)) (n : NoAttr K (aP K nm) f) (a : SE K ta e) : SE K (QP K ta f) (HF nm f e) := by
 intro γ M x M' hh W H σ Q G R k
 obtain ⟨⟨y, M1⟩, h1, hh⟩ := aH hh
 obtain ⟨⟨i, fs⟩, h2, hh⟩ := aH hh
 obtain ⟨v, h3, hh⟩ := aH hh
 cases hh
 refine a _ _ _ _ h1 W H σ _ G R fun u W1 H1 e1 G1 r1 => ?_
 obtain ⟨rfl, hM⟩ := oO h2
 obtain ⟨dx, us, hH, hp⟩ := G1.objAt hM
 obtain ⟨w, hw, rw'⟩ := mK hp h3
 exact ⟨W1.α i, _, dx, us, w, r1.2, hH, c, n, hw, k w W1 H1 e1 G1 rw'⟩
def wK (nm f : Str) (eo ev : EF) : SF := fun γ M => (ev γ M).bind fun v => (eo γ v.2).bind fun o => (objOf nm o.2 o.1).bind fun p => if p.2.length < 1000 then some (.nx γ, o.2.set p.1 (.obj nm (oW f v.1 p.2))) else none
theorem aAE {nm f : Str} {ta tv : TE} {eo ev : EF} (c : Cls K (aP K nm)) (n : NoAttr K (aP K nm) f) (a : SE K ta eo) (b : SE K tv ev) : SS K (SL K ta tv f) (wK nm f eo ev) := by
 intro γ M o M' hh W H σ D G R k
 obtain ⟨⟨y, M1⟩, h1, hh⟩ := aH hh
 obtain ⟨⟨z, M2⟩, h2, hh⟩ := aH hh
 obtain ⟨⟨i, fs⟩, h3, hh⟩ := aH hh
 by_cases hl : fs.length < 1000
 · have hh : (if fs.length < 1000 then some (Out.nx γ, M2.set i (.obj nm (oW f y fs))) else none) = some (o, M') := hh
   rw [if_pos hl] at hh
   cases hh
   refine b _ _ _ _ h1 W H σ _ G R fun v W1 H1 e1 G1 r1 => ?_
   refine a _ _ _ _ h2 W1 H1 σ _ G1 (R.up e1) fun u W2 H2 e2 G2 r2 => ?_
   obtain ⟨rfl, hM⟩ := oO h3
   obtain ⟨dx, us, hH, hp⟩ := G2.objAt hM
   refine ⟨W2.α i, _, dx, us, r2.2, hH, c, n, by rw [<- Paired.len hp]; exact hl, ?_⟩
   exact k W2 _ (e1.trans e2) (G2.set hM (by intro q; cases q) (c' := .obj nm (oW f y fs)) (o' := .ins (aP K nm) dx (jJ f v us)) ⟨rfl, sP (r1.up e2) hp⟩) σ (R.up (e1.trans e2))
 · have hh : (if fs.length < 1000 then some (Out.nx γ, M2.set i (.obj nm (oW f y fs))) else none) = some (o, M') := hh
   rw [if_neg hl] at hh; cases hh
def nE : CD -> Bool
 | .d .none => true
 | _ => false
theorem zL {x : CD} (h : nE x = true) : x = .d .none := by
 cases x with
 | c n => cases h
 | d x => cases x <;> first | rfl | cases h
end
section
variable {ι : Type} {K : PySem.W.Frag} {X : ι -> Cx} {a b c e o : Expr} {es : List Expr} {f g h : EF} {fa : AF} {pos : Pos}
theorem ZP {nm fl : Str} (hK : ∀ i, (X i).K = K) (hc : Cls K (aP K nm)) (hn : NoAttr K (aP K nm) fl) (x : ME K X o f) (hb : ∀ env : Env, attributeBase o fl env (eval o env) = eval o env := by intro _; rfl) : ME K X (.Attribute o fl pos) (HF nm fl f) := by
 obtain ⟨t, x1, x2⟩ := x.ex
 refine ⟨_, fun i => ?_, YQ hc hn x2⟩
 have := OR (x1 i) (hb _) (pos := pos)
 rw [hK i] at this
 exact this
theorem LJ {nm fl : Str} {pos' : Pos} (hK : ∀ i, (X i).K = K) (hc : Cls K (aP K nm)) (hn : NoAttr K (aP K nm) fl) (x : ME K X o f) (y : ME K X e g) (hs : ∀ i, swapsWith e (some (.Attribute o fl pos')) pos.line (X i).env = pure false := by intro _; rfl) : MS K X (.Assign [.Attribute o fl pos'] e pos) (wK nm fl f g) := by
 obtain ⟨t, x1, x2⟩ := x.ex; obtain ⟨u, y1, y2⟩ := y.ex
 refine ⟨_, fun i => ?_, aAE hc hn x2 y2⟩
 have := JA (x1 i) (y1 i) (hs i)
 rw [hK i] at this
 exact this
end
structure MDef (K : PySem.W.Frag) (nm m qual : Str) (st : Stmt) : Prop where
 ex : ∃ f fd, Fun K m qual st f fd /\ PySem.W.findIn K (.ref (aP K nm)) m = some (some (.ref f)) /\ PySem.W.isFn K (.ref f) = true
section
variable {P : Program} {w : World} {K : PySem.W.Frag} {mg : Str -> Option Value} {base : Heap}
theorem Fun.okQ {x qual : Str} {st : Stmt} {N ps : List Str} {k : Nat} {b : SF} {f : Addr} {fd : FuncData} (F : Fun K x qual st f fd) (S : aS N ps (aG st))
 (hbody : ∀ (f : Addr) (cdv : Value) (A : Around) (outer : List Env) (s : Shared) (H : Hp) (E : XK), Room k (A.deeper (envOfC qual (aG st) s.heap.objs.size f cdv)) ->
  ML K (fun _ : Unit => (jB CX0 P w K mg base N qual (aG st) f cdv A outer s H E).nox) (bI st) b) : FnOk P w K mg base CX0 (k + 1) f fd ps (spM K (fnF ps.length N.length b)) := by
 have len : ∀ vs H Q E, spM K (fnF ps.length N.length b) vs H Q E -> vs.length = ps.length := fun vs H Q E h => by
  obtain ⟨xs, M, W, y, M', G, R, hf, _⟩ := h
  by_cases hl : xs.length = ps.length
  · rw [<- Paired.len R]; exact hl
  · unfold fnF at hf
    rw [if_neg hl] at hf; cases hf
 refine F.ok S len fun cdv A outer s H vs Q E hr h => ?_
 obtain ⟨t, hP, hS⟩ := (hbody f cdv A outer s H E hr).ex
 refine ⟨t, hP (), ?_⟩
 obtain ⟨xs, M, W, y, M', G, R, hf, k⟩ := h
 by_cases hl : xs.length = ps.length
 · unfold fnF at hf
   rw [if_pos hl] at hf
   obtain ⟨⟨o, M1⟩, h1, hf⟩ := aH hf
   have hR : RepS K W (xs.map some ++ List.replicate (N.length - xs.length) none) (start N vs) := by
    unfold start
    rw [<- Paired.len R]
    exact Paired.app (RepVs.some R) (mH _)
   refine hS _ _ _ _ h1 W H _ _ G hR fun W1 H1 e1 G1 => ?_
   cases o with
   | rt x => cases hf; exact fun v r => k v W1 H1 e1 G1 r
   | nx γ => cases hf; exact fun σ r => k .non W1 H1 e1 G1 rfl
   | bk γ => cases hf
   | ct γ => cases hf
 · unfold fnF at hf
   rw [if_neg hl] at hf; cases hf
end
end L2
end
section
set_option Elab.async false
set_option linter.all false
set_option maxRecDepth 100000
set_option maxHeartbeats 4000000
namespace L2
open PySem PySem.Spec PyProof.Rows
end L2
end
section
set_option Elab.async false
set_option linter.all false
set_option maxRecDepth 100000
set_option maxHeartbeats 4000000
namespace L2
open PySem PySem.W PyProof.Rows
def KS {α : Type} (lt : Nat -> Nat -> Bool) (n : Nat) : KasT α -> (α -> Prop) -> Prop
 | .ret a, Q => Q a
 | .ask i j k, Q => i < n /\ j < n /\ KS lt n (k (lt i j)) Q
theorem KS.mono {α : Type} {lt : Nat -> Nat -> Bool} {n : Nat} {Q R : α -> Prop} (m : ∀ a, Q a -> R a) : ∀ {t : KasT α}, KS lt n t Q -> KS lt n t R
 | .ret _, h => m _ h
 | .ask _ _ _, h => ⟨h.1, h.2.1, KS.mono m h.2.2⟩
theorem KS.wp {α : Type} {lt : Nat -> Nat -> Bool} {n : Nat} {Q : α -> Prop} {R : α -> Shared -> Prop} {s : Shared} {cmp : Nat -> Nat -> (Bool -> Shared -> Prop) -> Shared -> Prop}
 (hc : ∀ i j C, i < n -> j < n -> C (lt i j) s -> cmp i j C s) (m : ∀ a, Q a -> R a s) : ∀ {t : KasT α}, KS lt n t Q -> KasT.kasWp cmp t R s
 | .ret _, h => m _ h
 | .ask _ _ _, h => hc _ _ _ h.1 h.2.1 (KS.wp hc m h.2.2)
section
variable {lt : Nat -> Nat -> Bool} {n : Nat}
def Inv2 (n : Nat) (p : Array Nat) : Prop := p.Perm (List.range n).toArray
theorem Inv2.ent {p : Array Nat} (h : Inv2 n p) (h0 : 0 < n) (k : Nat) : p.getD k 0 < n := by
 rw [Array.getD_eq_getD_getElem?]
 cases e : p[k]? with
 | none => exact h0
 | some x =>
  have hm : x ∈ p := Array.mem_of_getElem? e
  have := (h.mem_iff (a := x)).mp hm
  simpa using this
theorem lP {p : Array Nat} (hp : Inv2 n p) (i j : Nat) : Inv2 n (kas_rev p i j) := (mirror_perm p i j _).trans hp
end
end L2
end
section
set_option Elab.async false
set_option linter.all false
set_option maxRecDepth 100000
set_option maxHeartbeats 4000000
namespace L2
open PySem PySem.Spec PyProof.Rows
def yR : List PyData -> Option (List Int)
 | [] => some []
 | .int n :: r => (yR r).bind fun ns => some (n :: ns)
 | _ => none
theorem pQ {h : Heap} : ∀ {ds : List PyData} {us : List Value} {as : List Addr} {ns : List Int}, ReadsAll h us ds as -> yR ds = some ns -> IntsAre us ns
 | [], _, _, _, r, e => by cases r; cases e; exact .nil
 | d :: ds, _, _, _, r, e => by
  cases r with
  | cons r1 r2 =>
   cases d with
   | int n =>
    have e : (yR ds).bind (fun ns => some (n :: ns)) = some _ := e
    obtain ⟨ms, h1, h2⟩ := Option.bind_eq_some_iff.mp e
    cases h2
    cases r1
    exact .cons _ _ (pQ r2 h1)
   | _ => cases e
def wW : PyData -> PyData -> Option Bool
 | .int a, .int b => some (decide (a < b))
 | .tuple xs, .tuple ys => (yR xs).bind fun ns => (yR ys).bind fun ms => some (HT.lexLt ns ms)
 | _, _ => none
def kT : List PyData -> List PyData -> Option Bool
 | [], ys => some (decide (0 < ys.length))
 | _ :: _, [] => some false
 | x :: xs, y :: ys => if PyData.eqv x y = true then kT xs ys else wW x y
def isI : PyData -> Bool
 | .int _ => true
 | _ => false
section
variable {prog : Program} {w : World} {A : Around} {E : Value -> Shared -> Prop} {s : Shared}
theorem SZ {p q : Value} {x y : PyData} {as bs : List Addr} {c fl : Bool} {Q : Bool -> Shared -> Prop} (hu : A.units < cLine) (r1 : Reads s.heap p x as) (r2 : Reads s.heap q y bs) (h : wW x y = some c) (hf : fl = true -> isI x = true /\ isI y = true) (k : Q c s) :
 wpAny (model prog w) A (oneLt' fl p q) Q E s := by
 unfold wW at h
 split at h
 · rename_i a b
   cases r1; cases r2; cases h
   cases fl with
   | true => exact oneLt_int k
   | false => exact PySem.W.kat_one _ _ (lt_int k)
 · rename_i xs ys
   obtain ⟨ns, h1, h⟩ := Option.bind_eq_some_iff.mp h
   obtain ⟨ms, h2, h⟩ := Option.bind_eq_some_iff.mp h
   cases h
   cases fl with
   | true => exact absurd (hf rfl).1 (by intro z; cases z)
   | false =>
    cases r1 with
    | tuple g1 g2 g3 g4 =>
     cases r2 with
     | tuple k1 k2 k3 k4 =>
      exact PySem.W.kat_one _ _ (HT.lt_tupInts ⟨_, g1, g2, _, g3⟩ ⟨_, k1, k2, _, k3⟩ (pQ g4 h1) (pQ k4 h2) hu k)
 · cases h
theorem FP {b fin c : Bool} {Q : Bool -> Shared -> Prop} (hu : A.units + 64 < cLine) (k : Q c s) : ∀ (xs ys : List PyData) (us ws : List Value) (as bs : List Addr) (i : Nat), ReadsAll s.heap us xs as -> ReadsAll s.heap ws ys bs -> xs.all SeqAt.shaped = true -> ys.all SeqAt.shaped = true ->
 kT xs ys = some c -> fin = decide (us.length < ws.length) -> ((b && i == 0) = true -> xs.head?.all isI = true /\ ys.head?.all isI = true) -> PySem.W.KatLex prog w A b fin Q (us.zip ws) i s
 | [], ys, us, ws, as, bs, i, r1, r2, s1, s2, h, hf, hb => by
  cases r1
  have hl : ws.length = ys.length := by
   clear k h hf hb s2
   induction r2 using ReadsAll.rec (motive_1 := fun _ _ _ _ => True) with
   | nil => rfl
   | cons _ _ _ ih => simp [ih]
   | _ => trivial
  rw [List.zip_nil_left]
  refine PySem.W.kat_nil ?_
  have h : some (decide (0 < ys.length)) = some c := h
  cases h
  rw [hf, hl]; exact k
 | x :: xs, [], us, ws, as, bs, i, r1, r2, s1, s2, h, hf, hb => by
  cases r2
  rw [List.zip_nil_right]
  refine PySem.W.kat_nil ?_
  cases h
  rw [hf]
  simpa using k
 | x :: xs, y :: ys, us, ws, as, bs, i, r1, r2, s1, s2, h, hf, hb => by
  cases r1 with
  | cons a1 a2 =>
   cases r2 with
   | cons b1 b2 =>
    rw [List.all_cons, Bool.and_eq_true] at s1 s2
    rw [List.zip_cons_cons]
    refine PySem.W.kat_cons ?_
    refine SeqAt.eqAt_reads x y A s _ _ _ _ a1 b1 (SeqAt.canLay_of_shaped s1.1) (SeqAt.canLay_of_shaped s2.1) (SeqAt.room_of_shaped s1.1 hu) _ _ _ _ ?_
    have h : (if PyData.eqv x y = true then kT xs ys else wW x y) = some c := h
    cases e : PyData.eqv x y with
    | true =>
     rw [e, if_pos rfl] at h
     refine PySem.W.kat_yes (FP hu k xs ys _ _ _ _ (i + 1) a2 b2 s1.2 s2.2 h ?_ (fun z => ?_))
     · rw [hf]; simp
     · simp at z
    | false =>
     rw [e, if_neg Bool.false_ne_true] at h
     refine PySem.W.kat_no (SZ (by omega) a1 b1 h (fun z => ?_) k)
     have := hb z
     simpa using this
end
end L2
end
section
set_option Elab.async false
set_option linter.all false
set_option maxRecDepth 100000
set_option maxHeartbeats 4000000
namespace L2
open PySem PySem.W PyProof.Rows
def RY {α : Type} (lt : Nat -> Nat -> Bool) : KasT α -> α
 | .ret a => a
 | .ask i j k => RY lt (k (lt i j))
def KA {α : Type} (n : Nat) : KasT α -> (α -> Prop) -> Prop
 | .ret a, Q => Q a
 | .ask i j k, Q => i < n /\ j < n /\ ∀ b, KA n (k b) Q
section
variable {n : Nat}
theorem KA.bind {α β : Type} {f : α -> KasT β} {Q : β -> Prop} : ∀ {t : KasT α}, KA n t (fun a => KA n (f a) Q) -> KA n (t.bind f) Q
 | .ret _, h => h
 | .ask _ _ _, h => ⟨h.1, h.2.1, fun b => KA.bind (h.2.2 b)⟩
theorem KA.ks {α : Type} {lt : Nat -> Nat -> Bool} {Q : α -> Prop} : ∀ {t : KasT α}, KA n t Q -> KS lt n t (fun a => a = RY lt t /\ Q a)
 | .ret _, h => ⟨rfl, h⟩
 | .ask i j _, h => ⟨h.1, h.2.1, KA.ks (h.2.2 (lt i j))⟩
theorem KS.run {α : Type} {lt : Nat -> Nat -> Bool} {Q : α -> Prop} : ∀ {t : KasT α}, KS lt n t Q -> Q (RY lt t)
 | .ret _, h => h
 | .ask i j k, h => KS.run (t := k (lt i j)) h.2.2
theorem CV {p : Array Nat} (hp : Inv2 n p) (h0 : 0 < n) {Q : Nat -> Prop} (q : ∀ r, Q r) : ∀ (f m : Nat), KA n (kas_asc p f m) Q
 | 0, m => by rw [kas_asc.eq_def]; exact q m
 | f + 1, m => by
  rw [kas_asc.eq_def]
  refine ⟨hp.ent h0 _, hp.ent h0 _, fun b => ?_⟩
  cases b with
  | true => exact q m
  | false => exact CV hp h0 q f (m + 1)
theorem rM (h0 : 0 < n) {Q : Array Nat × Nat × Nat -> Prop} (k : ∀ p m q, Inv2 n p -> Q (p, m, q)) : ∀ (f : Nat) (p : Array Nat) (m q : Nat), Inv2 n p -> KA n (kas_desc f p m q) Q
 | 0, p, m, q, hp => by rw [kas_desc.eq_def]; exact k p m q hp
 | f + 1, p, m, q, hp => by
  rw [kas_desc.eq_def]
  refine ⟨hp.ent h0 _, hp.ent h0 _, fun b => ?_⟩
  cases b with
  | true =>
   dsimp only; rw [if_pos rfl]
   by_cases hq : q > 0
   · rw [if_pos hq]; exact rM h0 k f _ _ _ (lP hp _ _)
   · rw [if_neg hq]; exact rM h0 k f _ _ _ hp
  | false =>
   dsimp only; rw [if_neg Bool.false_ne_true]
   refine ⟨hp.ent h0 _, hp.ent h0 _, fun b => ?_⟩
   cases b with
   | true => exact k p m q hp
   | false => exact rM h0 k f _ _ _ hp
theorem zB (h0 : 0 < n) {p : Array Nat} {m : Nat} (hp : Inv2 n p) : KA n (kas_tail3 m n p) (fun r => Inv2 n r.2) := by
 rw [kas_tail3.eq_def]
 exact KA.bind (CV (lP hp 0 m) h0 (fun r => lP hp 0 m) _ _)
theorem qT (h0 : 0 < n) {p : Array Nat} {m : Nat} (hp : Inv2 n p) : KA n (kas_descPart m n p) (fun r => Inv2 n r.2) := by
 rw [kas_descPart.eq_def]
 refine KA.bind (rM h0 (fun p' m' q' a => ?_) _ _ _ _ hp)
 show KA n (if q' > 0 then kas_tail3 m' n (kas_rev p' (m' - (q' + 1)) m') else kas_tail3 m' n p') _
 by_cases hq : q' > 0
 · rw [if_pos hq]; exact zB h0 (lP a _ _)
 · rw [if_neg hq]; exact zB h0 a
theorem NO (h0 : 0 < n) {p : Array Nat} (hp : Inv2 n p) : KA n (kas_count n p) (fun r => Inv2 n r.2) := by
 rw [kas_count.eq_def]
 refine KA.bind (CV hp h0 (fun r => ?_) _ _)
 by_cases e : (r == n) = true
 · rw [if_pos e]; exact hp
 · rw [if_neg e]
   by_cases g : r > 1
   · rw [if_pos g]
     refine ⟨hp.ent h0 _, hp.ent h0 _, fun b => ?_⟩
     cases b with
     | true => exact hp
     | false => exact qT h0 (lP hp _ _)
   · rw [if_neg g]; exact qT h0 hp
theorem sW (h0 : 0 < n) {p : Array Nat} (hp : Inv2 n p) {k : Nat} {Q : Nat -> Prop} (q : ∀ l, Q l) : ∀ (f l r : Nat), KA n (kas_place p k f l r) Q
 | 0, l, r => by rw [kas_place.eq_def]; exact q l
 | f + 1, l, r => by
  rw [kas_place.eq_def]
  show KA n (if l >= r then _ else _) Q
  by_cases g : l >= r
  · rw [if_pos g]; exact q l
  · rw [if_neg g]
    refine ⟨hp.ent h0 _, hp.ent h0 _, fun b => ?_⟩
    cases b with
    | true => exact sW h0 hp q f _ _
    | false => exact sW h0 hp q f _ _
theorem NJ (h0 : 0 < n) : ∀ (f : Nat) (p : Array Nat) (k : Nat), Inv2 n p -> KA n (kas_bin f p k) (Inv2 n)
 | 0, p, k, hp => by rw [kas_bin.eq_def]; exact hp
 | f + 1, p, k, hp => by
  rw [kas_bin.eq_def]
  exact KA.bind (sW h0 hp (fun l => NJ h0 f _ (k + 1) ((bubble_perm p k (k - l)).trans hp)) k 0 k)
theorem DT (h0 : 0 < n) : KA n (kas_sort n) (Inv2 n) := by
 unfold kas_sort
 have := NO h0 (p := (List.range n).toArray) (Array.Perm.refl _)
 refine KA.bind ?_
 have mono : ∀ {α : Type} {Q R : α -> Prop} (m : ∀ a, Q a -> R a) (t : KasT α), KA n t Q -> KA n t R := by
  intro α Q R m t
  induction t with
  | ret a => exact m a
  | ask i j k ih => exact fun h => ⟨h.1, h.2.1, fun b => ih b (h.2.2 b)⟩
 refine mono (fun r a => ?_) _ this
 by_cases e : r.fst < n
 · rw [if_pos e]; exact NJ h0 _ _ _ a
 · rw [if_neg e]; exact a
def hX (lt : Nat -> Nat -> Bool) (n : Nat) : List Nat := (RY lt (kas_sort n)).toList
theorem lR (lt : Nat -> Nat -> Bool) (h0 : 0 < n) : (hX lt n).Perm (List.range n) := by
 have := KS.run (KA.ks (lt := lt) (DT h0))
 simpa [hX] using Array.perm_iff_toList_perm.mp this.2
end
end L2
end
section
set_option Elab.async false
set_option linter.all false
set_option maxRecDepth 100000
set_option maxHeartbeats 4000000
namespace L2
open PySem PySem.Spec PyProof.Rows
mutual
def qQ : PyData -> Bool
 | .int _ => true
 | .tuple xs => hW xs
 | _ => false
def hW : List PyData -> Bool
 | [] => true
 | x :: r => qQ x && hW r
end
mutual
theorem rk {h h' : Heap} (k : ∀ b o vs n, h.get? b = some o -> o.data = .seq vs n -> h'.get? b = some o) : ∀ (d : PyData) (v : Value) (as : List Addr), qQ d = true -> Reads h v d as -> Reads h' v d as
 | .int n, _, _, _, r => by cases r; exact .int _ _
 | .tuple xs, _, _, e, r => by
  cases r with
  | tuple a b c d => exact .tuple (k _ _ _ _ a c) b c (KU k xs _ _ (by unfold qQ at e; exact e) d)
 | .none, _, _, e, _ => by unfold qQ at e; cases e
 | .bool _, _, _, e, _ => by unfold qQ at e; cases e
 | .str _, _, _, e, _ => by unfold qQ at e; cases e
 | .list _, _, _, e, _ => by unfold qQ at e; cases e
 | .dict _, _, _, e, _ => by unfold qQ at e; cases e
theorem KU {h h' : Heap} (k : ∀ b o vs n, h.get? b = some o -> o.data = .seq vs n -> h'.get? b = some o) : ∀ (ds : List PyData) (vs : List Value) (as : List Addr), hW ds = true -> ReadsAll h vs ds as -> ReadsAll h' vs ds as
 | [], _, _, _, r => by cases r; exact .nil
 | d :: ds, _, _, e, r => by
  cases r with
  | cons a b =>
   unfold hW at e
   rw [Bool.and_eq_true] at e
   exact .cons (rk k d _ _ e.1 a) (KU k ds _ _ e.2 b)
end
theorem ReadsAll.at {h : Heap} : ∀ {ds : List PyData} {vs : List Value} {as : List Addr} (i : Nat), ReadsAll h vs ds as -> i < ds.length -> ∃ bs, Reads h (vs.getD i .none) (ds.getD i .none) bs
 | [], _, _, i, _, hi => absurd hi (Nat.not_lt_zero _)
 | d :: ds, _, _, 0, r, _ => by cases r with | cons a b => exact ⟨_, a⟩
 | d :: ds, _, _, i + 1, r, hi => by
  cases r with
  | cons a b =>
   obtain ⟨bs, x⟩ := ReadsAll.at i b (Nat.lt_of_succ_lt_succ hi)
   exact ⟨bs, x⟩
theorem ReadsAll.len {h : Heap} : ∀ {ds : List PyData} {vs : List Value} {as : List Addr}, ReadsAll h vs ds as -> vs.length = ds.length
 | [], _, _, r => by cases r; rfl
 | d :: ds, _, _, r => by
  cases r with
  | cons a b => simp [ReadsAll.len b]
section
variable {prog : Program} {w : World} {A : Around} {E : Value -> Shared -> Prop} {s : Shared}
theorem aAJ {b c : Bool} {p q : Value} {xs ys : List PyData} {as bs : List Addr} {Q : Bool -> Shared -> Prop} (hu : A.units + 64 < cLine) (r1 : Reads s.heap p (.tuple xs) as) (r2 : Reads s.heap q (.tuple ys) bs)
 (s1 : xs.all SeqAt.shaped = true) (s2 : ys.all SeqAt.shaped = true) (h : kT xs ys = some c) (hb : b = true -> xs.head?.all isI = true /\ ys.head?.all isI = true) (k : Q c s) : wpAny (model prog w) A (keyLt' (tuples' b) p q) Q E s := by
 cases r1 with
 | tuple a1 a2 a3 a4 =>
  cases r2 with
  | tuple b1 b2 b3 b4 =>
   refine PySem.W.kat_lt a1 a3 b1 b3 (FP hu k xs ys _ _ _ _ 0 a4 b4 s1 s2 h (by simp) (fun z => hb ?_))
   simpa using z
def kN (rows : List (List PyData)) : Bool := rows.all fun r => match r with
 | .int _ :: _ => true
 | _ => false
def lW (rows : List (List PyData)) : Bool := rows.all fun r => match r with
 | .tuple _ :: _ => true
 | _ => false
theorem ZC {M : Model} {h : Heap} (n : Int) (t : Tok) : PySem.W.Looks M h (typeOf (.int n t)) (.type "int") := fun A Q E s _ q => by
 show wpAny M A (pure _) Q E s
 exact wpAny_pure q
theorem firstsI {h : Heap} : ∀ {rows : List (List PyData)} {vs : List Value} {as : List Addr}, ReadsAll h vs (rows.map .tuple) as -> kN rows = true -> ∃ fs, PySem.W.KatTups h vs fs /\ fs.length = rows.length /\ ∀ v ∈ fs, ∃ n t, v = .int n t
 | [], _, _, r, _ => by cases r; exact ⟨[], .nil, rfl, fun v hv => nomatch hv⟩
 | x :: rows, _, _, r, e => by
  unfold kN at e
  rw [List.all_cons, Bool.and_eq_true] at e
  cases r with
  | cons a b =>
   obtain ⟨fs, h1, h2, h3⟩ := firstsI b (by unfold kN; exact e.2)
   cases x with
   | nil => exact absurd e.1 (by decide)
   | cons d ds =>
    cases d with
    | int n =>
     cases a with
     | tuple g1 g2 g3 g4 =>
      rename_i o vs n'
      generalize hv : vs.toList = l at g4
      cases g4 with
      | cons q1 q2 =>
       cases q1 with
       | int _ t =>
        refine ⟨.int n t :: fs, .cons g1 g2 g3 (f := .int n t) ?_ h1, by simp [h2], ?_⟩
        · rw [<- Array.getElem?_toList, hv]; rfl
        · intro v hv'
          rcases List.mem_cons.mp hv' with z | z
          · exact ⟨_, _, z⟩
          · exact h3 v z
    | _ => exact absurd e.1 (by intro z; cases z)
end
end L2
end
section
set_option Elab.async false
set_option linter.all false
set_option maxRecDepth 100000
set_option maxHeartbeats 4000000
namespace L2
open PySem PySem.Spec PyProof.Rows
section
variable {prog : Program} {w : World} {A : Around} {E : Value -> Shared -> Prop} {s : Shared}
theorem aAW {M : Model} {h : Heap} {a : Addr} {o : Obj} (g : h.get? a = some o) (c : o.cls = .type "tuple") : PySem.W.Looks M h (typeOf (.ref a)) (.type "tuple") := fun A Q E s k q => wpAny_typeOf (show s.TypeIs (.ref a) "tuple" from ⟨o, k _ _ g, c⟩) q
theorem FO {h : Heap} : ∀ {rows : List (List PyData)} {vs : List Value} {as : List Addr}, ReadsAll h vs (rows.map .tuple) as -> lW rows = true -> ∃ fs, PySem.W.KatTups h vs fs /\ fs.length = rows.length /\ ∀ v ∈ fs, ∃ a o, v = .ref a /\ h.get? a = some o /\ o.cls = .type "tuple"
 | [], _, _, r, _ => by cases r; exact ⟨[], .nil, rfl, fun v hv => nomatch hv⟩
 | x :: rows, _, _, r, e => by
  unfold lW at e
  rw [List.all_cons, Bool.and_eq_true] at e
  cases r with
  | cons a b =>
   obtain ⟨fs, h1, h2, h3⟩ := FO b (by unfold lW; exact e.2)
   cases x with
   | nil => exact absurd e.1 (by decide)
   | cons d ds =>
    cases d with
    | tuple ys =>
     cases a with
     | tuple g1 g2 g3 g4 =>
      rename_i o vs n'
      generalize hv : vs.toList = l at g4
      cases g4 with
      | cons q1 q2 =>
       cases q1 with
       | @tuple a' _ _ _ _ _ k1 k2 k3 k4 =>
        refine ⟨.ref a' :: fs, .cons g1 g2 g3 (f := .ref a') ?_ h1, by simp [h2], ?_⟩
        · rw [<- Array.getElem?_toList, hv]; rfl
        · intro v hv'
          rcases List.mem_cons.mp hv' with z | z
          · exact ⟨_, _, z, k1, k2⟩
          · exact h3 v z
    | _ => exact absurd e.1 (by intro z; cases z)
theorem GO {M : Model} {rows : List (List PyData)} {vs : List Value} {as : List Addr} {Q : SortKind -> Shared -> Prop} (r : ReadsAll s.heap vs (rows.map .tuple) as) (h0 : 0 < rows.length) (hk : kN rows = true \/ lW rows = true) (q : Q (tuples' (kN rows)) s) : wpAny M A (keyKind' vs.toArray) Q E s := by
 rcases hk with hk | hk
 · obtain ⟨fs, h1, h2, h3⟩ := firstsI r hk
   rw [hk] at q
   refine PySem.W.kat_kind (T := .type "int") h1 (by omega) (fun v hv => ?_) (by decide) q
   obtain ⟨n, t, rfl⟩ := h3 v hv
   exact ZC n t
 · obtain ⟨fs, h1, h2, h3⟩ := FO r hk
   have e : kN rows = false := by
    cases rows with
    | nil => cases h0
    | cons x r =>
     unfold lW at hk
     rw [List.all_cons, Bool.and_eq_true] at hk
     cases x with
     | nil => rfl
     | cons d ds => cases d <;> first | rfl | exact absurd hk.1 (by intro z; cases z)
   rw [e] at q
   refine PySem.W.kat_kind (T := .type "tuple") h1 (by omega) (fun v hv => ?_) (by decide) q
   obtain ⟨a, o, rfl, g, c⟩ := h3 v hv
   exact aAW g c
end
section
variable {X : Cx} {pins : List (Addr × Obj)} {σ : St} {H : Hp} {s : Shared} {h' : Heap}
theorem ObjOk.there {P : Program} {w : World} {H : Hp} {h : Heap} {a : Addr} {o : HO} (x : ObjOk P w H h a o) : ∃ u, h.get? a = some u := by
 induction o with
 | lst xs => obtain ⟨_, _, _, _, e⟩ := x; exact ⟨_, e⟩
 | tup xs => obtain ⟨_, _, _, _, e, _⟩ := x; exact ⟨_, e⟩
 | dK kvs => obtain ⟨_, _, _, _, o, _, _, e, _⟩ := x; exact ⟨_, e⟩
 | dT kvs => obtain ⟨_, _, _, _, o, _, _, e, _⟩ := x; exact ⟨_, e⟩
 | set S n => obtain ⟨o, _, _, _, e, _⟩ := x; exact ⟨_, e⟩
 | ins C dx fs => obtain ⟨_, _, _, e, _⟩ := x; exact ⟨_, e⟩
 | own y => exact x
 | xd fs => obtain ⟨_, ⟨_, _, _, e, _⟩, _⟩ := x; exact ⟨_, e⟩
 | rng lo hi => obtain ⟨_, _, _, e⟩ := x; exact ⟨_, e⟩
 | frz o u => exact ⟨_, x.1⟩
 | tbl ps => exact ⟨_, x⟩
 | met f x' => exact ⟨_, x⟩
 | ext φ => exact x.2.1
theorem HOk.none {P : Program} {w : World} {H : Hp} {h : Heap} {a : Addr} (x : HOk P w H h) (e : h.get? a = none) : H a = none := by
 cases q : H a with
 | none => rfl
 | some o =>
  obtain ⟨u, z⟩ := (x a o q).there
  rw [e] at z; cases z
theorem Inv.laidL {a : Addr} {o : HO} (I : Inv X pins σ H s) (k : ∀ b u, b ≠ X.env.locals -> s.heap.get? b = some u -> h'.get? b = some u) (ns : ∀ m, s.heap.Ns X.env.locals m -> h'.Ns X.env.locals m) (hp : s.heap.get? a = none) (new : ObjOk X.prog X.w (upd H a o) h' a o) :
 Inv X pins σ (upd H a o) { s with heap := h' } := by
 have hn := I.hok.none hp
 have nt : ∀ b u, H b = some u -> b ≠ X.env.locals := fun b u e z => by rw [z, I.free] at e; cases e
 refine I.step (g' := s.gens) (t' := s.toks) (d' := s.drawn) (ch := []) (fun _ z => nomatch z) (fun b o h1 _ _ e _ => k b o h1 e) (fun b o h1 _ _ e _ => ⟨o.slots, k b o h1 e⟩) (fun b o _ e n => ?_) (fun b o _ e => ?_) (fun b xs e => ?_) (fun b o u e => ?_) (fun b ps e => ⟨#[], ?_⟩) ns ?_ I.bare
 · rw [aI (fun z => by subst z; rw [hp] at e; cases e)]; exact n
 · by_cases z : b = X.env.locals
   · subst z
     obtain ⟨m, hm, _⟩ := I.loc
     obtain ⟨o', _, _, q, _⟩ := ns m hm
     exact ⟨o', q⟩
   · exact ⟨o, k b o z e⟩
 · rw [aI (aN e hn)]; exact e
 · rw [aI (aN e hn)]; exact e
 · rw [aI (aN e hn)]; simpa using e
 · intro b u e
   by_cases hb : b = a
   · subst hb; rw [aT] at e; cases e; exact new
   · rw [aI hb] at e
     refine (I.hok b u e).stay (fun c v hc q => k c v ?_ q) (fun c q => by rw [aI (aN q hn)]; exact q) fun c xs q => by rw [aI (aN q hn)]; exact q
     rcases hc with z | z
     · rw [z]; exact nt b _ e
     · exact nt c _ z
theorem TC {h : Heap} {L : Addr} {m m' : Str -> Option Value} (a : h.Ns L m) (b : h.Ns L m') : m = m' := by
 obtain ⟨o, es, ep, h1, h2, _, h3⟩ := a
 obtain ⟨o', es', ep', k1, k2, _, k3⟩ := b
 rw [h1] at k1; cases k1
 rw [h2] at k2; cases k2
 funext x
 rw [<- h3 x, k3 x]
def oP (rows : List (List PyData)) (i j : Nat) : Bool := (kT (rows.getD i []) (rows.getD j [])).getD false
theorem vX {vs : List V} {us : List Value} (r : Vals vs us) : ∀ ps : List Nat, Vals (ps.map fun i => vs.getD i .non) (ps.map fun i => us.getD i .none)
 | [] => .nil
 | p :: ps => by
  refine .cons ?_ (vX r ps)
  have go : ∀ {vs : List V} {us : List Value} (i : Nat), Vals vs us -> RelV (vs.getD i .non) (us.getD i .none) := by
   intro vs us i r
   induction r generalizing i with
   | nil => exact rfl
   | cons a b ih => cases i with
    | zero => exact a
    | succ i => exact ih i
  exact go p r
end
end L2
end
section
set_option Elab.async false
set_option linter.all false
set_option maxRecDepth 100000
set_option maxHeartbeats 4000000
namespace L2
open PySem PySem.Spec PyProof.Rows
def sortable (rows : List (List PyData)) : Bool := decide (2 <= rows.length) && decide (rows.length < 64) && rows.all (fun r => r.all SeqAt.shaped && hW r) && (kN rows || lW rows) && (List.range rows.length).all fun i => (List.range rows.length).all fun j => (kT (rows.getD i []) (rows.getD j [])).isSome
def OO (rows : List (List PyData)) : List PyData := (hX (oP rows) rows.length).map fun i => .tuple (rows.getD i [])
theorem zE {rows : List (List PyData)} (h : sortable rows = true) : 2 <= rows.length /\ rows.length < 64 /\ (∀ r ∈ rows, r.all SeqAt.shaped = true /\ hW r = true) /\ (kN rows = true \/ lW rows = true) /\ (∀ i j, i < rows.length -> j < rows.length -> (kT (rows.getD i []) (rows.getD j [])).isSome = true) := by
 unfold sortable at h
 rw [Bool.and_eq_true, Bool.and_eq_true, Bool.and_eq_true, Bool.and_eq_true, Bool.or_eq_true] at h
 obtain ⟨⟨⟨⟨h1, h2⟩, h3⟩, h4⟩, h5⟩ := h
 refine ⟨of_decide_eq_true h1, of_decide_eq_true h2, fun r hr => ?_, h4, fun i j hi hj => ?_⟩
 · have := List.all_eq_true.mp h3 r hr
   rwa [Bool.and_eq_true] at this
 · exact List.all_eq_true.mp (List.all_eq_true.mp h5 i (List.mem_range.mpr hi)) j (List.mem_range.mpr hj)
section
variable {K : PySem.W.Frag}
theorem RepAll.len {H : Hp} : ∀ {ds : List PyData} {vs : List V}, RepAll K H ds vs -> vs.length = ds.length
 | [], _, h => by
  have h : _ = [] := h
  rw [h]; rfl
 | d :: ds, _, h => by
  obtain ⟨v, r, rfl, _, h2⟩ := (show ∃ v r, _ = v :: r /\ Rep K H d v /\ RepAll K H ds r from h)
  simp [RepAll.len h2]
theorem AE {H : Hp} {rows : List (List PyData)} {us : List V} (r : RepAll K H (rows.map .tuple) us) : ∀ ps : List Nat, (∀ i ∈ ps, i < rows.length) -> RepAll K H (ps.map fun i => .tuple (rows.getD i [])) (ps.map fun i => us.getD i .non)
 | [], _ => rfl
 | p :: ps, hp => by
  refine ⟨_, _, rfl, ?_, AE r ps fun i hi => hp i (List.mem_cons_of_mem _ hi)⟩
  have hi := hp p List.mem_cons_self
  have hl := RepAll.len r
  rw [List.length_map] at hl
  have hu : us[p]? = some (us.getD p .non) := by
   rw [List.getD_eq_getElem?_getD, List.getElem?_eq_getElem (by omega)]; rfl
  obtain ⟨d, h1, h2⟩ := RepAll.get r hu
  rw [List.getElem?_map, List.getElem?_eq_getElem hi] at h1
  cases h1
  have e : rows.getD p [] = rows[p] := by rw [List.getD_eq_getElem?_getD, List.getElem?_eq_getElem hi]; rfl
  show Rep K H (.tuple (rows.getD p [])) (us.getD p .non)
  rw [e]
  exact h2
theorem aBO {lt : Nat -> Nat -> Bool} {n : Nat} (h0 : 0 < n) : ∀ i ∈ hX lt n, i < n := fun i hi => List.mem_range.mp ((lR lt h0).mem_iff.mp hi)
end
theorem Room.units2 {k : Nat} {A : Around} (r : Room k A) : A.in1.in1.units + 64 < cLine := by have := r.un; show A.units + 1 + 1 + 64 < _; omega
end L2
end
section
set_option Elab.async false
set_option linter.all false
set_option maxRecDepth 100000
set_option maxHeartbeats 4000000
namespace L2
open PySem PySem.Spec PyProof.Rows
section
variable {prog : Program} {w : World} {A : Around} {E : Value -> Shared -> Prop} {s : Shared}
theorem rH {a : Addr} {vs : List Value} {n : Nat} {P : PySem.Fin -> Shared -> Prop} (g : s.heap.get? a = some (seqObj "list" vs.toArray n)) (h2 : vs.length < 2)
 (k : P (.done (.ret .none)) { s with heap := sortedHeap s.heap a vs vs.toArray }) : wpAny (model prog w) A (Builtin.«list.sort» ⟨[.ref a], []⟩) P E s := by
 rw [list_sort_plain]
 have hz : vs.toArray.size <= sizeLine := by rw [List.size_toArray, sizeLine_eq]; omega
 refine wpAny_bind (listItems_at g rfl ?_)
 refine wpAny_bind (listUpdate_at g rfl ?_ hz (by simp))
 have g1 := get?_update_seq g (fun _ => #[])
 have hlt := Heap.lt_size g1
 refine wpAny_bind (seqEpoch_at g1 rfl ?_)
 refine wpAny_bind (wpAny_newTuple ?_ (by simpa using hz))
 refine wpAny_bind (wpAny_newList ?_)
 refine wpAny_holding ?_
 have hs : vs.toArray.size < 2 := by simpa using h2
 dsimp only
 rw [if_pos hs, if_pos hs]
 refine wpAny_bind (wpAny_pure ?_)
 refine wpAny_bind ?_
 show wpAny (model prog w) A (pure ((), SortSt.mk' general' (vs.toArray.zip vs.toArray) #[] 7 none)) _ E _
 refine wpAny_pure ?_
 dsimp only
 have g2 := Heap.get?_push_of_some { cls := .type "tuple", data := .seq vs.toArray.toList.toArray } g1
 have g3 := Heap.get?_push_of_some { cls := .type "list", data := .seq ([] : List Value).toArray } g2
 refine wpAny_bind (seqEpoch_at g3 rfl ?_)
 have hm : Array.map (fun x => x.snd) (arrOf (SortSt.mk' general' (vs.toArray.zip vs.toArray) #[] 7 none)) = vs.toArray := by
  show Array.map (fun x => x.snd) (vs.toArray.zip vs.toArray) = vs.toArray
  apply Array.ext
  · simp
  · intro i h1 h2
    simp
 rw [hm]
 refine wpAny_bind (listUpdate_at g3 rfl ?_ (by simp) (by omega))
 rw [if_neg (by simp)]
 exact wpAny_pure k
end
end L2
end
section
set_option Elab.async false
set_option linter.all false
set_option maxRecDepth 100000
set_option maxHeartbeats 4000000
namespace L2
open PySem PySem.Spec PyProof.Rows
def TrS (h B : Heap) (e : Addr) (vs : Array Value) : Option Value -> Prop
 | none => vs[1]? = some .none
 | some fl => ∃ T oT ts, vs[1]? = some (.ref T) /\ B.get? T = none /\ T ≠ e /\ h.get? T = some oT /\ oT.data = .fields ts /\ ts[3]? = some fl
def Tr (h B : Heap) (e : Addr) (c : Value) (dx : Option Addr) (st : Option Value) : Prop :=
 ∃ oe vs, h.get? e = some oe /\ (oe.cls = c /\ oe.dict = dx) /\ oe.data = .fields vs /\ 1 < vs.size /\ TrS h B e vs st
structure Fly (B : Heap) (l : List Env) (e : Addr) (c : Value) (dx : Option Addr) (st : Option Value) (h : Heap) : Prop where
 stays : B.StaysIn h
 new : B.get? e = none
 frames : h.FunFrames B l
 tr : Tr h B e c dx st
theorem Fly.obj {B h : Heap} {l : List Env} {e : Addr} {c : Value} {dx : Option Addr} {st : Option Value} (F : Fly B l e c dx st h) : ∃ oe vs, h.get? e = some oe /\ oe.cls = c /\ oe.dict = dx /\ oe.data = .fields vs := by
 obtain ⟨oe, vs, h1, h2, h3, _⟩ := F.tr
 exact ⟨oe, vs, h1, h2.1, h2.2, h3⟩
theorem RS (o : Obj) (f : Array Value -> Array Value) : (o.mapFields f).dict = o.dict := by
 obtain ⟨c, d, dt, sl⟩ := o
 cases dt <;> rfl
section
variable {M : Model} {A : Around} {E : Value -> Shared -> Prop} {s : Shared} {B : Heap} {env : Env} {outer l : List Env} {L e : Addr} {c : Value} {dx : Option Addr} {st : Option Value} {Q : Unit -> Shared -> Prop}
theorem iB {h : Heap} {a b : Addr} {o oa : Obj} {vs : Array Value} (ha : h.get? a = some oa) (hd : oa.data = .fields vs) (hb : h.get? b = some o) (hn : ∀ ws, o.data ≠ .fields ws) : b ≠ a := fun q => by
 subst q
 rw [ha] at hb
 cases hb
 exact hn vs hd
theorem AL {oe : Obj} {vs : Array Value} {hd : Value} {nx : Bool} (hfr : A.frames = some (env :: outer)) (hf : env.frame = some L) (stays : B.StaysIn s.heap) (new : B.get? e = none) (fr : s.heap.FunFrames B (env :: outer))
 (he : s.heap.get? e = some oe) (hk : oe.cls = c /\ oe.dict = dx) (hv : oe.data = .fields vs) (hz : 1 < vs.size)
 (q : ∀ h', Fly B (env :: outer) e c dx (some (rawInt L)) h' -> s.heap.UpToSlots h' -> Q () { s with heap := h' }) :
 wpAny M A (do let a <- frameOf env; let pl <- entryPlaceOf L nx; let b <- EntryCells.newEntry hd a .none (rawInt L) .none pl; setField (.ref e) 1 b) Q E s := by
 have notF : e ∉ (env :: outer).filterMap (·.frame) := fun hm => by
  obtain ⟨_, o, ho, hnf⟩ := fr.mem hm
  exact iB he hv ho hnf rfl
 refine wpAny_bind (wpAny_frameOf_fun hfr fr hf fun g1 so => wpAny_bind (wpAny_entryPlaceOf fun pl hpl => ?_))
 unfold EntryCells.newEntry newFields
 refine wpAny_bind (wpAny_newObj_type ?_ (hpl.sizeOk5 _ _ _ _ _))
 generalize hnw : ({ cls := .type "traceback", dict := none, data := .fields ([hd, Value.ref L, .none, rawInt L, .none] ++ (if pl.isEmpty then List.replicate 6 Value.none else pl)).toArray } : Obj) = nw
 have nwd : nw.data = .fields ([hd, Value.ref L, .none, rawInt L, .none] ++ (if pl.isEmpty then List.replicate 6 Value.none else pl)).toArray := by rw [<- hnw]
 have e1 : g1.get? e = some oe := (so.2.1 e notF).trans he
 have st1 : B.StaysIn g1 := fun b o hb => (so.2.1 b fun hm => by rw [(fr.mem hm).1] at hb; cases hb).trans (stays b o hb)
 have e2 : (g1.push nw).get? e = some oe := Heap.get?_push_of_some nw e1
 refine wpAny_setField e2 hv hz (q _ ?_ ?_)
 all_goals
  have nTe : g1.objs.size ≠ e := Nat.ne_of_gt (Heap.lt_size e1)
  have e3 := Heap.get?_update_self (Obj.mapFields (·.setIfInBounds 1 (Value.ref g1.objs.size))) e2 (Obj.isFreed_of_fields (Obj.data_mapFields hv _))
  have kp : ∀ b o, b ≠ e -> g1.get? b = some o -> ((g1.push nw).update e (Obj.mapFields (·.setIfInBounds 1 (Value.ref g1.objs.size)))).get? b = some o := fun b o hbe hb => by
   rw [Heap.get?_update_other _ _ (Ne.symm hbe)]
   exact Heap.get?_push_of_some _ hb
 · refine ⟨fun b o hb => kp b o (fun z => by rw [z, new] at hb; cases hb) (st1 b o hb), new, fr.of_keeps fun b o hb hnf => ?_, ?_⟩
   · obtain ⟨sl, hs⟩ := so.2.2 b o hb
     exact ⟨_, kp b _ (iB he hv hb hnf) hs, rfl⟩
   · refine ⟨_, _, e3, ⟨(Obj.cls_mapFields _ _).trans hk.1, (RS _ _).trans hk.2⟩, Obj.data_mapFields hv _, by simpa using hz, g1.objs.size, nw, _, by simp [hz], st1.fresh, nTe, ?_, nwd, by simp⟩
     rw [Heap.get?_update_other _ _ (Ne.symm nTe)]
     exact Heap.get?_push_size g1 (by rw [<- hnw]; rfl)
 · intro b o hb hnf
   obtain ⟨sl, hs⟩ := so.2.2 b o hb
   exact ⟨sl, kp b _ (iB he hv hb hnf) hs⟩
theorem xS (hfr : A.frames = some (env :: outer)) (hf : env.frame = some L) (F : Fly B (env :: outer) e c dx st s.heap) (hst : st = none \/ st = some .none \/ st = some (rawInt L))
 (q : ∀ h', Fly B (env :: outer) e c dx (some (rawInt L)) h' -> s.heap.UpToSlots h' -> Q () { s with heap := h' }) : wpAny M A (noteFrame (.ref e) env) Q E s := by
 obtain ⟨oe, vs, he, hk, hv, hz, ht⟩ := id F.tr
 unfold noteFrame
 simp only [hf]
 rcases hst with rfl | rfl | rfl
 · refine wpAny_bind (wpAny_field he hv (show vs[1]? = some .none from ht) ?_)
   rw [if_neg (by decide)]
   exact AL hfr hf F.stays F.new F.frames he hk hv hz q
 · obtain ⟨T, oT, ts, t1, t2, t3, t4, t5, t6⟩ := ht
   refine wpAny_bind (wpAny_field he hv t1 ?_)
   rw [if_pos (show (Value.ref T != Value.none) = true from by simp)]
   refine wpAny_bind (wpAny_field t4 t5 t6 ?_)
   rw [if_neg (show ¬ ((Value.none == rawInt L) = true) from by simp [rawInt])]
   refine wpAny_bind (wpAny_setField t4 t5 (Array.getElem?_eq_some_iff.mp t6).1 ?_)
   have oth : ∀ b, b ≠ T -> (s.heap.update T (Obj.mapFields (·.setIfInBounds 3 Value.none))).get? b = s.heap.get? b := fun b hb => Heap.get?_update_other _ _ (Ne.symm hb)
   refine AL (s := { s with heap := s.heap.update T (Obj.mapFields (·.setIfInBounds 3 Value.none)) }) hfr hf (fun b o hb => (oth b fun z => by rw [z, t2] at hb; cases hb).trans (F.stays b o hb)) F.new
    (F.frames.of_keeps fun b o hb hnf => ⟨o, (oth b (iB t4 t5 hb hnf)).trans hb, rfl⟩) ((oth e (Ne.symm t3)).trans he) hk hv hz fun h' F' u => q h' F' fun b o hb hnf => u b o ((oth b (iB t4 t5 hb hnf)).trans hb) hnf
 · obtain ⟨T, oT, ts, t1, t2, t3, t4, t5, t6⟩ := ht
   refine wpAny_bind (wpAny_field he hv t1 ?_)
   rw [if_pos (show (Value.ref T != Value.none) = true from by simp)]
   refine wpAny_bind (wpAny_field t4 t5 t6 ?_)
   rw [if_pos (show (rawInt L == rawInt L) = true from by simp)]
   exact wpAny_pure (q _ F (.refl _))
theorem rV {fl : Value} {fo : Option Addr} (F : Fly B l e c dx (some fl) s.heap)
 (q : ∀ h', Fly B l e c dx (some (fo.elim .none fun f => rawInt f)) h' -> s.heap.UpToSlots h' -> Q () { s with heap := h' }) : wpAny M A (setFlight (.ref e) fo) Q E s := by
 obtain ⟨oe, vs, he, hk, hv, hz, T, oT, ts, t1, t2, t3, t4, t5, t6⟩ := id F.tr
 have z3 : 3 < ts.size := (Array.getElem?_eq_some_iff.mp t6).1
 unfold setFlight
 refine wpAny_bind (wpAny_field he hv t1 ?_)
 rw [if_pos (show (Value.ref T != Value.none) = true from by simp)]
 have oth : ∀ b, b ≠ T -> (s.heap.update T (Obj.mapFields (·.setIfInBounds 3 (fo.elim .none fun f => rawInt f)))).get? b = s.heap.get? b := fun b hb => Heap.get?_update_other _ _ (Ne.symm hb)
 refine wpAny_setField t4 t5 z3 (q _ ⟨fun b o hb => (oth b fun z => by rw [z, t2] at hb; cases hb).trans (F.stays b o hb), F.new, F.frames.of_keeps fun b o hb hnf => ⟨o, (oth b (iB t4 t5 hb hnf)).trans hb, rfl⟩,
  oe, vs, (oth e (Ne.symm t3)).trans he, hk, hv, hz, T, _, _, t1, t2, t3, Heap.get?_update_self _ t4 (Obj.isFreed_of_fields (Obj.data_mapFields t5 _)), Obj.data_mapFields t5 _, by simp [z3]⟩
  fun b o hb hnf => ⟨o.slots, (oth b (iB t4 t5 hb hnf)).trans hb⟩)
theorem NB (hfr : A.frames = some (env :: outer)) (hf : env.frame = some L) (F : Fly B (env :: outer) e c dx st s.heap) (hst : st = none \/ st = some .none \/ st = some (rawInt L))
 (q : ∀ h', Fly B outer e c dx (some .none) h' -> s.heap.UpToSlots h' -> Q () { s with heap := h' }) : wpAny M A (leaving env (.ref e)) Q E s := by
 unfold leaving
 refine wpAny_bind (xS hfr hf F hst fun h1 F1 u1 => rV (fo := none) F1 fun h2 F2 u2 => ?_)
 obtain ⟨a, b, ⟨_, _, c'⟩, d⟩ := F2
 exact q h2 ⟨a, b, c', d⟩ (u1.trans u2)
theorem OV {X : Value -> Shared -> Prop} (hfr : A.frames = some (env :: outer)) (hf : env.frame = some L) (F : Fly B (env :: outer) e c dx st s.heap) (hst : st = none \/ st = some .none \/ st = some (rawInt L))
 (q : ∀ h', Fly B (env :: outer) e c dx (some (rawInt L)) h' -> s.heap.UpToSlots h' -> X (.ref e) { s with heap := h' }) : notedBy M A env (cameBackBy M A env X) (.ref e) s := by
 unfold notedBy
 refine xS hfr hf F hst fun h1 F1 u1 => ?_
 unfold cameBackBy
 obtain ⟨oe, vs, he, hk, hv, hz, T, oT, ts, t1, t2, t3, t4, t5, t6⟩ := id F1.tr
 refine wpAny_bind (wpAny_field he hv t1 ?_)
 rw [if_neg (show ¬ ((Value.ref T == Value.none) = true) from by simp), hf]
 exact rV (s := { s with heap := h1 }) (fo := some L) F1 fun h2 F2 u2 => q h2 F2 (u1.trans u2)
end
end L2
end
section
set_option Elab.async false
set_option linter.all false
set_option maxRecDepth 100000
set_option maxHeartbeats 4000000
namespace L2
open PySem PySem.Spec PyProof.Rows
structure Body (X : Cx) : Prop where
 stk : X.stack = X.env :: X.outer
 fr : X.env.frame = some X.env.locals
 ex : X.ex = []
structure Kp (X : Cx) (H : Hp) (B h : Heap) : Prop where
 trk : ∀ b u o, H b = some u -> h.get? b = some o -> B.get? b = some o
 ent : ∀ b o, X.s₀.heap.get? b = some o -> b ∉ X.fs -> (∃ o', B.get? b = some o') /\ (X.H₀ b = none -> B.get? b = some o)
 pin : ∀ p ∈ X.pn, B.get? p.1 = some p.2
section
variable {X : Cx} {pins : List (Addr × Obj)} {σ : St} {H : Hp} {s : Shared} {B h' : Heap}
theorem Inv.up (I : Inv X [] σ H s) (b : Body X) (k : Kp X H B s.heap) (stays : B.StaysIn h') (u : s.heap.UpToSlots h') : Inv X [] σ H { s with heap := h' } /\ Kp X H B h' := by
 have tr : ∀ a v o, H a = some v -> s.heap.get? a = some o -> h'.get? a = some o := fun a v o e q => stays a o (k.trk a v o e q)
 have cell : ∀ c v, s.heap.IsCell c v -> h'.IsCell c v := fun c v ⟨o, ho, hd⟩ => by
  obtain ⟨sl, q⟩ := u c o ho fun vs z => by rw [hd] at z; cases z
  exact ⟨_, q, hd⟩
 have frm : ∀ a ∈ X.fs, ∀ o, s.heap.get? a = some o -> ∃ sl, h'.get? a = some { o with slots := sl } := fun a ha o e => by
  obtain ⟨_, o1, h1, hn⟩ := I.funs.mem ha
  rw [e] at h1
  cases h1
  exact u a o e hn
 refine ⟨⟨I.ok, I.os, I.bare, ⟨fun a o e n ha hx => ?_, fun a o e n ha hx => ?_, I.base.free, fun a o e hx => ?_, I.base.tups, I.base.frzs, I.base.tbls⟩, ?_, fun x c e => ?_, I.free, I.freeC, fun p hp => ?_, fun a v e => ?_, I.len⟩, ⟨fun a v o e q => ?_, k.ent, k.pin⟩⟩
 · exact stays a o ((k.ent a o e ha).2 n)
 · obtain ⟨sl, e1⟩ := I.base.slot a o e n ha hx
   obtain ⟨sl', e2⟩ := frm a ha _ e1
   exact ⟨sl', e2⟩
 · by_cases ha : a ∈ X.fs
   · obtain ⟨o1, e1⟩ := I.base.there a o e hx
     obtain ⟨sl, e2⟩ := frm a ha o1 e1
     exact ⟨_, e2⟩
   · obtain ⟨⟨o', q⟩, _⟩ := k.ent a o e ha
     exact ⟨o', stays a o' q⟩
 · obtain ⟨m, hn, hl⟩ := I.loc
   refine ⟨m, u.ns hn, fun i x v e1 e2 e3 => ?_⟩
   obtain ⟨uu, r, l⟩ := hl i x v e1 e2 e3
   refine ⟨uu, r, ?_⟩
   rcases l with l | ⟨kk, c, e, z⟩
   · exact .inl l
   · exact .inr ⟨kk, c, e, cell c _ z⟩
 · obtain ⟨v, z⟩ := I.cell x c e
   exact ⟨v, cell c v z⟩
 · rw [List.append_nil] at hp
   obtain ⟨_, n, ne, nf, d⟩ := I.pin p (List.mem_append_left _ hp)
   exact ⟨stays _ _ (k.pin p hp), n, ne, nf, d⟩
 · exact (I.hok a v e).stay (fun c w hc q => by
    rcases hc with rfl | hc
    · exact tr c v w e q
    · exact tr c _ w hc q) (fun _ q => q) fun _ _ q => q
 · obtain ⟨o1, q1⟩ := (I.hok a v e).there
   have := tr a v o1 e q1
   rw [q] at this
   cases this
   exact k.trk a v o e q1
def XS (X : Cx) (EE : St -> XK) (ev : Value) (s : Shared) : Prop :=
 ∃ e c dx st σ H B, ev = .ref e /\ Inv X [] σ H s /\ Kp X H B s.heap /\ Fly B X.stack e c dx st s.heap /\ (st = none \/ st = some .none \/ st = some (rawInt X.env.locals)) /\ EE σ c dx H
theorem XS.unwish {EE : St -> XK} {E : Value -> Shared -> Prop} {ev : Value} (h : XS (X.wish E) EE ev s) : XS X EE ev s := by
 obtain ⟨e, c, dx, st, σ, H, B, h1, I, k, F, hst, q⟩ := h
 exact ⟨e, c, dx, st, σ, H, B, h1, I.unwish, ⟨k.trk, k.ent, k.pin⟩, F, hst, q⟩
def CX1 (P : Program) (w : World) : CXT := fun outer H s E ev s' => ∃ e c dx H' B, ev = .ref e /\ s'.os = s.os /\ AllBare s'.gens /\ Un (frs outer) [] H H' s.heap s'.heap /\ HOk P w H' s'.heap /\ Fly B outer e c dx (some .none) s'.heap /\
 (∀ b u o, H' b = some u -> s'.heap.get? b = some o -> B.get? b = some o) /\ (∀ b o, s.heap.get? b = some o -> b ∉ frs outer -> (∃ o', B.get? b = some o') /\ (H b = none -> B.get? b = some o)) /\ E c dx H'
theorem Inv.entry (I : Inv X pins σ H s) (bd : Body X) {b : Addr} {o : Obj} (e : X.s₀.heap.get? b = some o) (hb : b ∉ X.fs) : b ∉ frs X.stack /\ (∃ o1, s.heap.get? b = some o1) /\ (X.H₀ b = none -> s.heap.get? b = some o /\ H b = none) := by
 have nx : b ∉ X.ex := by rw [bd.ex]; simp
 refine ⟨fun z => ?_, I.base.there b o e nx, fun n => ⟨I.base.keep b o e n hb nx, I.base.free b o e n nx⟩⟩
 rcases List.mem_cons.mp (I.stkSub b z) with q | q
 · exact absurd (q ▸ Nat.lt_of_lt_of_le (Heap.lt_size e) I.ok.above) (Nat.lt_irrefl _)
 · exact hb q
theorem LO {EE : St -> XK} {ev : Value} {s' : Shared} (bd : Body X) (I : Inv X pins σ H s) (h : CX1 X.prog X.w X.stack H s (EE σ) ev s') : XS X EE ev s' := by
 obtain ⟨e, c, dx, H', B, rfl, os, bare, un, hok, F, trk, ent, q⟩ := h
 have I' : Inv X pins σ H' s' := I.call' os un hok bare fun b z => absurd z (by simp)
 refine ⟨e, c, dx, some .none, σ, H', B, rfl, I'.pins_of fun p hp => absurd hp (by simp), ⟨trk, fun b o e hb => ?_, fun p hp => ?_⟩, F, .inr (.inl rfl), q⟩
 · obtain ⟨h1, ⟨o1, h2⟩, h3⟩ := I.entry bd e hb
   exact ⟨(ent b o1 h2 h1).1, fun n => (ent b o (h3 n).1 h1).2 (h3 n).2⟩
 · obtain ⟨h1, n, ne, nf, _⟩ := I.pin p (List.mem_append_left _ hp)
   exact (ent p.1 p.2 h1 fun z => (List.mem_cons.mp (I.stkSub p.1 z)).elim ne nf).2 n
theorem NY {EE : St -> XK} {e : Addr} {oe : Obj} {vs : Array Value} (bd : Body X) (I : Inv X pins σ H s) (he : s.heap.get? e = some oe) (hn : H e = none) (h0 : X.s₀.heap.get? e = none) (hp : ∀ p ∈ X.pn, p.1 ≠ e) (hv : oe.data = .fields vs) (hz : 1 < vs.size) (h1 : vs[1]? = some .none)
 (q : EE σ oe.cls oe.dict H) : XS X EE (.ref e) s := by
 have nf : e ∉ frs X.stack := fun hm => by
  obtain ⟨_, o, ho, hnf⟩ := I.stack.mem hm
  exact iB he hv ho hnf rfl
 have get : ∀ b o, b ≠ e -> b ∉ frs X.stack -> s.heap.get? b = some o -> (PySem.W.hideAll s.heap (e :: frs X.stack)).get? b = some o := fun b o h1 h2 h3 => PySem.W.hideAll_get _ h3 fun hm => (List.mem_cons.mp hm).elim h1 h2
 refine ⟨e, oe.cls, oe.dict, none, σ, H, PySem.W.hideAll s.heap (e :: frs X.stack), rfl, I.pins_of fun p hp => absurd hp (by simp), ⟨fun b u o h1 h2 => ?_, fun b o h1 h2 => ?_, fun p h1 => ?_⟩, ⟨fun b o h1 => PySem.W.of_hideAll _ h1, PySem.W.hideAll_none _ List.mem_cons_self, ?_, oe, vs, he, ⟨rfl, rfl⟩, hv, hz, h1⟩, .inl rfl, q⟩
 · exact get b o (aN h1 hn) (fun z => by rw [I.stkFree b z] at h1; cases h1) h2
 · obtain ⟨k1, ⟨o1, k2⟩, k3⟩ := I.entry bd h1 h2
   have ne : b ≠ e := fun z => by rw [z, h0] at h1; cases h1
   exact ⟨⟨o1, get b o1 ne k1 k2⟩, fun n => get b o ne k1 (k3 n).1⟩
 · obtain ⟨q1, n, ne, nf, _⟩ := I.pin p (List.mem_append_left _ h1)
   exact get p.1 p.2 (hp p h1) (fun z => (List.mem_cons.mp (I.stkSub p.1 z)).elim ne nf) q1
 · exact PySem.W.funFrames_hide I.stack fun env hm a ha => List.mem_cons_of_mem _ (List.mem_filterMap.mpr ⟨env, hm, ha⟩)
theorem OJ {EE : St -> XK} (bd : Body X) : PassesOwn (model X.prog X.w) X.A X.env (XS X EE) := by
 rintro ev s ⟨e, c, dx, st, σ, H, B, rfl, I, k, F, hst, q⟩
 have hf := I.ok.frames
 rw [bd.stk] at hf F
 refine OV hf bd.fr F hst fun h' F' u => ?_
 obtain ⟨I', k'⟩ := I.up bd k F'.stays u
 exact ⟨e, c, dx, _, σ, H, B, rfl, I', k', by rw [bd.stk]; exact F', .inr (.inr rfl), q⟩
end
section
variable {P : Program} {w : World} {K : PySem.W.Frag} {mg : Str -> Option Value} {base : Heap} {N : List Str} {qual : Str} {scope : Scope} {f : Addr} {cd : Value} {A : Around} {outer : List Env} {s : Shared} {H : Hp} {E : XK} {CX : CXT}
theorem DN : Body (jB CX P w K mg base N qual scope f cd A outer s H E) := ⟨rfl, rfl, rfl⟩
theorem Body.wish {X : Cx} (b : Body X) (E : Value -> Shared -> Prop) : Body (X.wish E) := ⟨b.stk, b.fr, b.ex⟩
theorem IZ {ev : Value} {s' : Shared} (h : XS (jB (CX1 P w) P w K mg base N qual scope f cd A outer s H E) (fun _ => E) ev s') : (jB (CX1 P w) P w K mg base N qual scope f cd A outer s H E).xe ev s' := by
 obtain ⟨e, c, dx, st, σ, H', B, rfl, I, k, F, hst, q⟩ := h
 refine NB (c := c) (dx := dx) (st := st) (B := B) (outer := outer) (L := s.heap.objs.size) I.ok.frames rfl F hst fun h' F' u => ?_
 obtain ⟨I', k'⟩ := I.up DN k F'.stays u
 exact ⟨e, c, dx, H', B, rfl, I'.os, I'.bare, I'.base, I'.hok, F', k'.trk, k'.ent, q⟩
theorem aAs {k : Nat} {name : Str} {params : Arguments} {body : List Stmt} {dV kV doc pm cdv ct oc : Value} {an od : Option Addr}
 {osl : Array (Option Value)} {ps : List Str} {sp : Sp} (lk : K.lookup f = some ⟨oc, od, .func (PySem.W.fnOf name qual params body scope dV kV doc pm an cdv ct), osl⟩) (hcd : PySem.W.codeIn K cdv qual = true) (S : aS N ps scope)
 (len : ∀ vs H Q E, sp vs H Q E -> vs.length = ps.length)
 (hbody : ∀ (A : Around) (outer : List Env) (s : Shared) (H : Hp) (vs : List V) (Q : VK) (E : XK), Room k (A.deeper (envOfC qual scope s.heap.objs.size f cdv)) -> sp vs H Q E ->
  ∃ t, PSs ((jB (CX1 P w) P w K mg base N qual scope f cdv A outer s H E).wish (XS (jB (CX1 P w) P w K mg base N qual scope f cdv A outer s H E) fun _ => E)) body t /\ t { nx := fun _ H' => Q .non H', rt := Q } (start N vs) H) :
 FnOk P w K mg base (CX1 P w) (k + 1) f (PySem.W.fnOf name qual params body scope dV kV doc pm an cdv ct) ps sp :=
 VR lk hcd S len fun A outer s H vs Q E hr h => by
  obtain ⟨t, ht, hq⟩ := hbody A outer s H vs Q E hr h
  exact ⟨t, fun pins s' σ H' D I hw => wpAny_mono (ht pins s' σ H' D (I.wish _) hw) (fun _ _ q => q.unwish) fun _ _ z => IZ z, hq⟩
end
end L2
end
section
set_option Elab.async false
set_option linter.all false
set_option maxRecDepth 100000
set_option maxHeartbeats 4000000
namespace L2
open PySem PySem.Spec PyProof.Rows
structure pH (K : PySem.W.Frag) (C : Addr) : Prop where
 ga : PySem.W.findIn K (.ref C) "__getattribute__" = some (some (.builtin "BaseException.__getattribute__"))
 gh : PySem.W.findIn K (.ref C) "__getattr__" = some none
 be : PySem.W.subIn K (.ref C) (.type "BaseException") = some true
 cl : (PySem.W.clsIn K C).isSome = true
section
variable {prog : Program} {w : World} {A : Around} {E : Value -> Shared -> Prop} {s : Shared} {K : PySem.W.Frag} {x C : Addr} {ox : Obj} {od : Option Obj} {name : Str}
theorem wX {tk : Tok} {Q : Value -> Shared -> Prop} (X : K.In s.heap) (I : PySem.W.InstAt s.heap x ox C od) (c : pH K C)
 (h : wpAny (model prog w) A.in1 (Builtin.«object.__getattribute__» ⟨[.ref x, .str name tk], []⟩)
  (fun fin s' => match fin with | .done (.ret v) => Q v s' | .done _ => False | .again c' => c'.quiet = true /\ codeAny (model prog w) A c' (fun r s' => match r with | .ok (.ret v) => Q v s' | .ok _ => False | .error e => E e s') s') E s) :
 wpAny (model prog w) A (call (.builtin "BaseException.__getattribute__") [.ref x, .str name tk]) Q E s := by
 have hb := F.entry_bexc_ga
 generalize Builtin.«object.__getattribute__» = b at hb h
 refine wpAny_call (codeAny_call_builtin F.excAttr_ValueError.ga.plain hb ?_)
 have hk : builtinKind "BaseException.__getattribute__" = some .slot := by decide +kernel
 have hsplit : splitId "BaseException.__getattribute__" = some ("BaseException", "__getattribute__") := by decide +kernel
 have ha := F.args_bexc_ga (.ref x) (.str name tk)
 have L0 := I.type (M := model prog w)
 have L1 := PySem.W.looks_subIn (M := model prog w) X c.be
 obtain ⟨hh, g, d, t, os⟩ := s
 simp only [checkBuiltinCall, hk, hsplit]
 refine wpAny_bind ?_
 unfold isInstance
 refine wpAny_bind (L0.at (L1.at ?_))
 repeat (first | assumption | wp_step)
 refine wpAny_mono h (fun fin s' z => ?_) fun _ _ z => z
 rcases fin with (_ | _ | _ | _) | c'
 · exact z
 · exact z
 · exact z
 · exact z
 · exact ⟨z.1, codeAny_mono z.2 fun r s' q => by cases r with
    | error e => exact q
    | ok f => cases f <;> exact q⟩
theorem vY {tk : Tok} {fill ex : Bool} {Q : Value -> Shared -> Prop} (X : K.In s.heap) (I : PySem.W.InstAt s.heap x ox C od) (c : pH K C)
 (h : wpAny (model prog w) A.in1 (Builtin.«object.__getattribute__» ⟨[.ref x, .str name tk], []⟩)
  (fun fin s' => match fin with | .done (.ret v) => wpAny (model prog w) A (handedOut v) Q E s' | .done _ => False | .again c' => c'.quiet = true /\ codeAny (model prog w) A c' (fun r s' => match r with | .ok (.ret v) => wpAny (model prog w) A (handedOut v) Q E s' | _ => False) s') (fun _ _ => False) s) :
 wpAny (model prog w) A (getAttrBy (.ref x) (.str name tk) fill ex) Q E s := by
 have L0 := I.type (M := model prog w)
 have L1 := PySem.W.looks_findIn (M := model prog w) X c.ga
 have L2 := PySem.W.looks_findIn (M := model prog w) X c.gh
 unfold getAttrBy
 refine wpAny_holding (wpAny_bind (L0.here (wpAny_bind (L1.here ?_))))
 have hx2 : (Value.builtin "BaseException.__getattribute__" == Value.builtin "object.__getattribute__") = false := by decide +kernel
 have hx1 : (onTheHeap (Value.ref C) && Value.builtin "BaseException.__getattribute__" == Value.builtin "object.__getattribute__") = false := by rw [hx2]; rfl
 dsimp only
 rw [hx1, if_neg Bool.false_ne_true]
 unfold getAttrByItsOwn hookBefore
 rw [if_pos (show onTheHeap (Value.ref C) = true from rfl)]
 refine wpAny_bind (L2.here (wpAny_bind (wpAny_attempt (wpAny_holding ?_))))
 unfold callGetattribute
 rw [if_neg (show ¬ ((ex && onTheHeap (Value.builtin "BaseException.__getattribute__")) = true) from by cases ex <;> exact Bool.false_ne_true)]
 unfold boundAndCalled
 rw [F.excAttr_ValueError.ga.bind (.ref x)]
 refine wpAny_bind (wpAny_pure ?_)
 refine wpAny_mono (wX (tk := tk) (name := name) (E := fun _ _ => False) (Q := fun v s' => wpAny (model prog w) A (handedOut v) Q E s') X I c ?_) (fun v s' z => z) fun _ _ z => z.elim
 refine wpAny_mono h (fun fin s' z => ?_) fun _ _ z => z
 rcases fin with (_ | _ | _ | _) | c'
 · exact z
 · exact z
 · exact z
 · exact z
 · exact ⟨z.1, codeAny_mono z.2 fun r s' q => by cases r with
    | error e => exact q
    | ok f => cases f <;> exact q⟩
theorem QY {ex : Bool} {v : Value} {Q : Value -> Shared -> Prop} (X : K.In s.heap) (I : PySem.W.InstAt s.heap x ox C od) (c : pH K C) (hf : PySem.W.findObj K C od name = some (.value v)) (hh : PySem.W.handedIn v = true) (h : Q v { s with toks := s.toks + 1 }) :
 wpAny (model prog w) A (getAttr (.ref x) name ex) Q E s := by
 unfold getAttr
 refine wpAny_bind (wpAny_mkText (vY (s := { s with toks := s.toks + 1 }) X I c ?_))
 obtain ⟨h0, g, d, t, os⟩ := s
 have L0 := I.type (M := model prog w)
 have L1 := PySem.W.looks_find (M := model prog w) X I hf
 refine wpAny_bind (wpAny_pure (wpAny_bind (wpAny_pure (wpAny_bind (L0.at (wpAny_bind (L1.at ?_)))))))
 refine wpAny_pure ?_
 show wpAny _ _ (handedOut v) _ _ _
 rw [PySem.W.handedOut_of hh]
 exact wpAny_pure h
theorem GY {Q : Option Value -> Shared -> Prop} (X : K.In s.heap) (I : PySem.W.InstAt s.heap x ox C od) (c : pH K C) (ha : PySem.W.findIn K (.ref C) "__class__" = some (some (.builtin "object.__class__")))
 (hn : PySem.W.specialIn K (.builtin "object.__class__") "__get__" = some (some (.builtin "getset_descriptor.__get__"))) (htk : PySem.W.takesIn K (.builtin "object.__class__") = some true) (hm : PySem.W.mroIn K C (.type "object") = some true)
 (h : Q (some (.ref C)) { s with toks := s.toks + 1 }) : wpAny (model prog w) A (getAttr? (.ref x) "__class__") Q E s := by
 have hf : PySem.W.findObj K C od "__class__" = some (.bind (.builtin "getset_descriptor.__get__") (.builtin "object.__class__")) := by
  obtain ⟨cd, hc⟩ := Option.isSome_iff_exists.mp c.cl
  unfold PySem.W.findObj
  rw [hc, Option.bind_some, ha, Option.bind_some]
  simp [hn, htk]
 unfold getAttr? getAttrBy?
 refine wpAny_bind (wpAny_mkText (wpAny_bind (wpAny_attempt (vY (s := { s with toks := s.toks + 1 }) X I c ?_))))
 obtain ⟨h0, g, d, t, os⟩ := s
 have L0 := I.type (M := model prog w)
 have L1 := PySem.W.looks_find (M := model prog w) X I hf
 refine wpAny_bind (wpAny_pure (wpAny_bind (wpAny_pure (wpAny_bind (L0.at (wpAny_bind (L1.at ?_)))))))
 show wpAny _ _ (Builtin.ObjectAttr.bindTo (.builtin "getset_descriptor.__get__") (.builtin "object.__class__") (.ref x) (.ref C)) _ _ _
 unfold Builtin.ObjectAttr.bindTo
 refine wpAny_bind (wpAny_holding (wpAny_call (PySem.W.class_get (ox := ox) (od := od) X I hm ?_)))
 refine wpAny_pure ?_
 show wpAny _ _ (handedOut (.ref C)) _ _ _
 exact wpAny_pure (wpAny_pure h)
theorem IW (c : pH K C) (ha : PySem.W.findIn K (.ref C) "__class__" = some (some (.builtin "object.__class__")))
 (hn : PySem.W.specialIn K (.builtin "object.__class__") "__get__" = some (some (.builtin "getset_descriptor.__get__"))) (htk : PySem.W.takesIn K (.builtin "object.__class__") = some true) (hm : PySem.W.mroIn K C (.type "object") = some true) :
 PySem.W.KitX K (.ref x) (.ref C) (fun h => ∃ ox od, PySem.W.InstAt h x ox C od) where
 ty := fun _ _ _ ⟨_, _, I⟩ => I.type
 it := fun _ _ X _ => by
  have hc := c.cl
  unfold PySem.W.clsIn at hc
  split at hc
  · rename_i c' d' cd' sl' ho
    intro A' Q' E' s' k q
    unfold isType loadHead
    exact wpAny_bind (wpAny_loadPart (k _ _ (X _ _ ho)) (wpAny_pure q))
  · cases hc
 ne := fun h tp dd its n sl X htp => by
  have hc := c.cl
  refine Bool.eq_false_iff.mpr fun q => ?_
  have e : C = tp := Value.ref.inj (beq_iff_eq.mp q)
  subst e
  unfold PySem.W.clsIn at hc
  split at hc
  · rename_i c' d' cd' sl' ho
    have z := (X _ _ ho).symm.trans htp
    cases z
  · cases hc
 ca := fun X ⟨_, _, I⟩ k => GY X I c ha hn htk hm k
end
end L2
end
section
set_option Elab.async false
set_option linter.all false
set_option maxRecDepth 100000
set_option maxHeartbeats 4000000
namespace L2
open PySem PySem.Spec PyProof.Rows
section
variable {X : Cx} {pins : List (Addr × Obj)} {σ : St} {H : Hp} {s : Shared}
def JE (sp : Sp) (EE : St -> XK) (t : TA) : TE := fun σ H Q => t σ H fun vs H1 => sp vs H1 Q (EE σ)
structure rO (P : Program) (w : World) (K : PySem.W.Frag) (mg : Str -> Option Value) (base : Heap) (k : Nat) (x : Str) (ps : List Str) (sp : Sp) : Prop where
 ex : ∃ f fd, FnOk P w K mg base (CX1 P w) k f fd ps sp /\ mg x = some (.ref f) /\ PySem.W.keepIn K (.ref f) = true /\ Binds K fd ps []
structure XOk (X : Cx) (EE : St -> XK) : Prop where
 bd : Body X
 pass : ∀ ev s, XS X EE ev s -> X.xe ev s
 own : PassesOwn (model X.prog X.w) X.A X.env X.xe
theorem XOk.of {X : Cx} (bd : Body X) (EE : St -> XK) : XOk (X.wish (XS X EE)) EE := ⟨bd.wish _, fun _ _ h => h.unwish, OJ bd⟩
theorem QR {EE : St -> XK} {k : Nat} {f : Addr} {fd : FuncData} {ps : List Str} {sp : Sp} {Q : VK} {us : List Value} {vs : List V} (ok : XOk X EE) (F : FnOk X.prog X.w X.K X.mg X.base (CX1 X.prog X.w) k f fd ps sp) (hr : Room k X.A) (hb : Binds X.K fd ps [])
 (I : Inv X pins σ H s) (r : Vals vs us) (h : sp vs H Q (EE σ)) : wpAny (model X.prog X.w) X.A (call (.ref f) us) (EP X pins σ Q) X.xe s := by
 have hl : us.length = ps.length := by rw [<- r.length]; exact F.len _ _ _ _ h
 have b := hb s us I.kIn (by rw [List.append_nil]; exact hl)
 rw [List.append_nil] at b
 refine wpAny_call (codeAny_mono (F.run X.A X.stack s H ⟨us, []⟩ us vs Q (EE σ) hr I.env0 b r h) fun r s' hq => ?_)
 cases r with
 | error e => exact ok.pass _ _ (LO ok.bd I hq)
 | ok fl =>
  cases fl with
  | ret u => exact I.after hq
  | next => exact False.elim hq
  | brk => exact False.elim hq
  | cont => exact False.elim hq
theorem PZ {EE : St -> XK} {k : Nat} {x : Str} {ps : List Str} {sp : Sp} {p pos : Pos} {e : Expr} {es : List Expr} {t : TA} (ok : XOk X EE) (C : rO X.prog X.w X.K X.mg X.base k x ps sp) (hr : Room k X.A) (ha : PA X (e :: es) t) (hg : Gl X x)
 (hdb : (x == ("__debug__" : Str)) = false) (he : starEach (e :: es) X.env = (false, eval e X.env) :: starEach es X.env) (hpl : (backTo pos (starEach es X.env)).any (·.1) = false) :
 PE X (.Call (.Name x p) (e :: es) [] pos) (JE sp EE t) := by
 intro pins s σ H Q I h
 obtain ⟨f, fd, F, m, kp, b⟩ := C.ex
 refine wpAny_Call_Name_kw (kA I hg m ?_ hdb)
 exact PySem.W.callWith_K (h₀ := X.base) I.ok.mod.kin kp (thn (ha pos pins s σ H _ I h) fun us s1 ⟨vs, H1, I1, r, q⟩ => ⟨I1.kIn, QR ok F hr b I1 r q⟩) he hpl
abbrev bmV : List Value := [.type "ValueError", .type "Exception", .type "BaseException", .type "object"]
theorem QU {K : PySem.W.Frag} {h : Heap} {C : Addr} {bmB : List Value} {nid : String} (X : K.In h) (q : PySem.W.excIn K C bmB nid = true) :
 ∃ bm N nm qn bs hd sn sub ab col dd k0 k1 k2 k3 k5 mN, h.get? C = some (excClassObj nm qn C N bs bm hd sn sub ab col dd k0 k1 k2 k3 k5 nid) /\ h.Ns N mN /\ mN "__init__" = none /\ OwnTail h bmB bm := by
 unfold PySem.W.excIn at q
 split at q
 case h_2 => cases q
 case h_1 dd cd sl lk =>
  split at q
  case h_2 => cases q
  case h_1 C' bm k0 k1 k2 k3 n k5 hm hs =>
   simp only [Bool.and_eq_true, beq_iff_eq, Bool.not_eq_true'] at q
   obtain ⟨⟨⟨⟨⟨q1, q2⟩, q3⟩, q4⟩, q5⟩, q6⟩ := q
   subst q1 q2
   cases cd with
   | mk nm bs mro ns qn hd sn sub ab col del =>
    cases hm
    cases q3
    have es : sl = #[k0, k1, k2, k3, some (.builtin n), k5] := by
     cases sl with
     | mk l => exact congrArg Array.mk hs
    cases es
    exact ⟨bm, ns, nm, qn, bs, hd, sn, sub, ab, col, dd, k0, k1, k2, k3, k5, _, X _ _ lk, .of_isNs (PySem.W.isNs_of_in X q5), PySem.W.nsMap_none_of_in X q5 q6, PySem.W.tail_of_in X q4⟩
def xI (EE : St -> XK) (C : Addr) : TS := fun _ σ H => EE σ (.ref C) none H
theorem GB {EE : St -> XK} {C : Addr} {x : Str} {np cpos pos : Pos} (ok : XOk X EE) (hc : X.calm = true) (hm : X.mg x = some (.ref C)) (q : PySem.W.excIn X.K C bmV "ValueError.__new__" = true) (hg : Gl X x)
 (hdb : (x == ("__debug__" : Str)) = false) : PS X (.Raise (some (.Call (.Name x np) [] [] cpos)) none pos) (xI EE C) := by
 intro pins s σ H D I h
 obtain ⟨bm, N, nm, qn, bs, hd, sn, sub, ab, col, dd, k0, k1, k2, k3, k5, mN, oC, oN, oi, ot⟩ := QU I.kIn q
 refine wpAny_Raise_call_subT (C := C) (nm := nm) (q := qn) (N := N) (bs := bs) (bm := bm) (hdct := hd) (sn := sn) (sub := sub) (ab := ab) (col := col) (dd := dd) (k0 := k0) (k1 := k1) (k2 := k2) (k3 := k3) (k5 := k5) (mN := mN)
  F.excBase_ValueError (ot.hasType F.excBase_ValueError.hasBase) (I.ok.hd hc) rfl oi (kA I hg hm ⟨rfl, evalArgs_empty ⟨rfl, Nat.zero_le _, oC, oN, ot, fun h' e mk => ok.pass _ _ ?_⟩⟩ hdb)
 obtain ⟨t, he, _, _⟩ := mk.there
 have I' : Inv X pins σ H { s with heap := h' } := I.kept mk.keeps
 have hn : H e = none := by
  cases z : H e with
  | none => rfl
  | some u =>
   obtain ⟨o, z'⟩ := (I.hok e u z).there
   rw [mk.new] at z'
   cases z'
 refine NY ok.bd I' he hn ?_ (fun p hp z => ?_) rfl (show 1 < 6 by decide) rfl h
 · cases z : X.s₀.heap.get? e with
   | none => rfl
   | some o =>
    obtain ⟨o1, z1⟩ := I.base.there e o z (by rw [ok.bd.ex]; simp)
    rw [mk.new] at z1
    cases z1
 · have := (I.pin p (List.mem_append_left _ hp)).1
   rw [z, mk.new] at this
   cases this
end
def hCx (X : Cx) (e : Addr) : Cx := { X with A := X.A.mark (some (.ref e)), calm := false, xe := fun _ _ => False }
def rJ (X : Cx) (pins : List (Addr × Obj)) : Cx := { X with pn := X.pn ++ pins }
section
variable {X : Cx} {pins : List (Addr × Obj)} {σ : St} {H : Hp} {s : Shared}
theorem Inv.toH (I : Inv X pins σ H s) (e : Addr) : Inv (hCx X e) pins σ H s :=
 ⟨⟨I.ok.mod, I.ok.kind, I.ok.glob, I.ok.blt, I.ok.above, I.ok.inj, I.ok.has, I.ok.cab, fun z => (by cases z), I.ok.frames, I.ok.stk, I.ok.exf, I.ok.bs, I.ok.bsz, I.ok.noex, I.ok.exfs, I.ok.funs, I.ok.frf⟩, I.os, I.bare, I.base, I.loc, I.cell, I.free, I.freeC, I.pin, I.hok, I.len⟩
theorem Inv.ofH {e : Addr} (I : Inv (hCx X e) pins σ H s) (ok : X.Ok) : Inv X pins σ H s := ⟨ok, I.os, I.bare, I.base, I.loc, I.cell, I.free, I.freeC, I.pin, I.hok, I.len⟩
theorem Inv.toP (I : Inv X pins σ H s) : Inv (rJ X pins) [] σ H s :=
 ⟨⟨I.ok.mod, I.ok.kind, I.ok.glob, I.ok.blt, I.ok.above, I.ok.inj, I.ok.has, I.ok.cab, I.ok.hd, I.ok.frames, I.ok.stk, I.ok.exf, I.ok.bs, I.ok.bsz, I.ok.noex, I.ok.exfs, I.ok.funs, I.ok.frf⟩, I.os, I.bare, I.base, I.loc, I.cell, I.free, I.freeC, fun p hp => I.pin p (by rw [List.append_nil] at hp; exact hp), I.hok, I.len⟩
theorem Inv.ofP (I : Inv (rJ X pins) [] σ H s) (ok : X.Ok) : Inv X pins σ H s := ⟨ok, I.os, I.bare, I.base, I.loc, I.cell, I.free, I.freeC, fun p hp => I.pin p (by rw [List.append_nil]; exact hp), I.hok, I.len⟩
theorem Inv.track {e : Addr} {oe : Obj} {vs : Array Value} (I : Inv X pins σ H s) (he : s.heap.get? e = some oe) (hv : oe.data = .fields vs) (hn : H e = none) (h0 : X.s₀.heap.get? e = none) (hp : ∀ p ∈ X.pn ++ pins, p.1 ≠ e) :
 Inv X pins σ (upd H e (.ext (jL e oe.cls oe.dict false))) s := by
 have ne : ∀ b u, H b = some u -> b ≠ e := fun b u z => aN z hn
 refine ⟨I.ok, I.os, I.bare, ⟨I.base.keep, I.base.slot, fun b o q n hx => ?_, I.base.there, fun b xs q => ?_, fun b o u q => ?_, fun b ps q => ?_⟩, I.loc, I.cell, ?_, fun x c q => ?_, fun p h => ?_, fun b u q => ?_, I.len⟩
 · rw [aI (fun z => by rw [z, h0] at q; cases q)]
   exact I.base.free b o q n hx
 · have := I.base.tups b xs q
   rw [aI (ne _ _ this)]; exact this
 · have := I.base.frzs b o u q
   rw [aI (ne _ _ this)]; exact this
 · obtain ⟨more, this⟩ := I.base.tbls b ps q
   exact ⟨more, by rw [aI (ne _ _ this)]; exact this⟩
 · obtain ⟨m, ⟨o, es, ep, ho, hd, _⟩, _⟩ := I.loc
   rw [aI (iB he hv ho fun ws z => by rw [hd] at z; cases z)]
   exact I.free
 · obtain ⟨v, o, ho, hd⟩ := I.cell x c q
   rw [aI (iB he hv ho fun ws z => by rw [hd] at z; cases z)]
   exact I.freeC x c q
 · obtain ⟨q1, q2, q3⟩ := I.pin p h
   exact ⟨q1, by rw [aI (hp p h)]; exact q2, q3⟩
 · by_cases hb : b = e
   · subst hb
     rw [aT] at q
     cases q
     exact ⟨⟨oe, vs, he, rfl, rfl, hv, fun z => by cases z⟩, ⟨oe, he⟩, fun h1 h2 ⟨o, ws, z1, z2⟩ k => ⟨o, ws, k o z1, z2⟩⟩
   · rw [aI hb] at q
     exact (I.hok b u q).stay (fun _ _ _ z => z) (fun c z => by rw [aI (ne _ _ z)]; exact z) fun c xs z => by rw [aI (ne _ _ z)]; exact z
theorem mL {M : Model} {A : Around} {E : Value -> Shared -> Prop} {i : Nat} {x : Str} {pos : Pos} {Q : Unit -> Shared -> Prop} (I : Inv X pins σ H s) (hN : X.N.Nodup) (hi : X.N[i]? = some x) (hk : X.env.scope.names.lookup x = some .local)
 (h : ∀ s', Inv X pins (σ.set i none) H s' -> Q () s') : wpAny M A (do bindName X.env x .none; unbindBehindTheSuite X.env x pos) Q E s := by
 obtain ⟨m, hn, hl⟩ := id I.loc
 have hcls : (X.env.scope.kind == .class || (X.env.scope.kind == .module && X.env.locals != X.env.globals)) = false := by rw [I.ok.kind]; rfl
 have hiσ : i < σ.length := by rw [I.len]; exact (List.getElem?_eq_some_iff.mp hi).1
 obtain ⟨oL, _, _, hoL, _⟩ := id hn
 refine wpAny_nameGoes_keeps hk hn hcls fun h' v hn' hs => h _ ?_
 have ltL : ∀ b o, X.s₀.heap.get? b = some o -> b ≠ X.env.locals := fun b o q => Nat.ne_of_lt (Nat.lt_of_lt_of_le (Heap.lt_size q) I.ok.above)
 refine ⟨I.ok, I.os, I.bare, ⟨fun b o q n hb hx => (hs.2 b (ltL b o q)).trans (I.base.keep b o q n hb hx), fun b o q n hb hx => ?_, I.base.free, fun b o q hx => ?_, I.base.tups, I.base.frzs, I.base.tbls⟩, ⟨_, hn', fun j y v' e1 e2 e3 => ?_⟩, fun y c q => ?_, I.free, I.freeC, fun p hp => ?_, fun b u q => ?_, by simpa using I.len⟩
 · obtain ⟨sl, e1⟩ := I.base.slot b o q n hb hx
   exact ⟨sl, (hs.2 b (ltL b o q)).trans e1⟩
 · obtain ⟨o', e1⟩ := I.base.there b o q hx
   exact ⟨o', (hs.2 b (ltL b o q)).trans e1⟩
 · have hj : j ≠ i := fun z => by
    subst z
    rw [List.getElem?_set_self hiσ] at e2
    cases e2
   rw [List.getElem?_set_ne (Ne.symm hj)] at e2
   obtain ⟨u', r', z⟩ := hl j y v' e1 e2 e3
   refine ⟨u', r', ?_⟩
   rcases z with ⟨k, e⟩ | ⟨k, c, e, z⟩
   · have : y ≠ x := fun e => hj (sY hN e1 (e ▸ hi))
     exact .inl ⟨k, by simp [this, e]⟩
   · exact .inr ⟨k, c, e, z.sameBut hs (I.cne y c e)⟩
 · obtain ⟨w', z⟩ := I.cell y c q
   exact ⟨w', z.sameBut hs (I.cne y c q)⟩
 · obtain ⟨e, n, ne, nf, d⟩ := I.pin p hp
   exact ⟨(hs.2 p.1 ne).trans e, n, ne, nf, d⟩
 · refine (I.hok b u q).stay (fun c w' hc z => (hs.2 c ?_).trans z) (fun _ z => z) fun _ _ z => z
   rintro rfl
   rcases hc with rfl | hc
   · rw [I.free] at q; cases q
   · rw [I.free] at hc; cases hc
structure HR where
 c : Value
 n : Option Nat
 t : TS
def unbN : Option Nat -> St -> St
 | none, σ => σ
 | some i, σ => σ.set i none
def setN : Option Nat -> St -> V -> St
 | none, σ, _ => σ
 | some i, σ, v => σ.set i (some v)
def JB (D : Ends) (n : Option Nat) : Ends := { nx := fun σ H => D.nx (unbN n σ) H, rt := D.rt, bk := fun σ H => D.bk (unbN n σ) H, ct := fun σ H => D.ct (unbN n σ) H }
def tHs (K : PySem.W.Frag) (D : Ends) : List HR -> St -> XK
 | [], _, _, _, _ => False
 | h :: r, σ, c, dx, H => ∃ b, PySem.W.exmOne K c h.c = some b /\ (if b = true then ∀ e, H e = none -> h.t (JB D h.n) (setN h.n σ (.ref e)) (upd H e (.ext (jL e c dx false))) else tHs K D r σ c dx H)
def MP (X : Cx) (hs : List ExceptHandler) (rs : List HR) : Prop := ∀ (pins : List (Addr × Obj)) (D : Ends) (e : Addr) (c : Value) (dx : Option Addr) (σ : St) (H : Hp) (s : Shared) (B : Heap) (E : Value -> Shared -> Prop), X.Ok -> Inv (rJ X pins) [] σ H s -> Kp (rJ X pins) H B s.heap ->
 Fly B X.stack e c dx (some .none) s.heap -> tHs X.K D rs σ c dx H -> wpAny (model X.prog X.w) X.A (handleBy (.ref e) X.env hs) (SP X pins D) E s
theorem ZE : MP X [] [] := fun _ _ _ _ _ _ _ _ _ _ _ _ _ _ h => h.elim
def LB (X : Cx) (x : Str) (c : Value) : Prop := X.mg x = some c \/ (X.mg x = none /\ bootBuiltins x = some c /\ x ≠ "__name__")
theorem WQ {x : Str} {c : Value} {pos : Pos} {E : Value -> Shared -> Prop} {Q : Value -> Shared -> Prop} (n : LB X x c) (I : Inv X pins σ H s) (hg : Gl X x) (hd : (x == ("__debug__" : Str)) = false) (h : Q c s) :
 wpAny (model X.prog X.w) X.A (eval (.Name x pos) X.env) Q E s := by
 rcases n with m | ⟨m, b, z⟩
 · exact kA I hg m h hd
 · exact nO I hg m b h z hd
theorem Fly.fresh {B h : Heap} {e : Addr} {c : Value} {dx st : _} (bd : Body X) (I : Inv X pins σ H s) (k : Kp X H B s.heap) (F : Fly B X.stack e c dx st s.heap) : H e = none /\ X.s₀.heap.get? e = none /\ ∀ p ∈ X.pn, p.1 ≠ e := by
 obtain ⟨oe, vs, he, _, _, hv⟩ := F.obj
 refine ⟨?_, ?_, fun p hp z => ?_⟩
 · cases z : H e with
   | none => rfl
   | some u =>
    have := k.trk e u oe z he
    rw [F.new] at this
    cases this
 · cases z : X.s₀.heap.get? e with
   | none => rfl
   | some o =>
    by_cases hf : e ∈ X.fs
    · obtain ⟨_, o1, z1, hn⟩ := I.funs.mem hf
      exact absurd rfl (iB he hv z1 hn)
    · obtain ⟨⟨o', q⟩, _⟩ := k.ent e o z hf
      rw [F.new] at q
      cases q
 · have := k.pin p hp
   rw [z, F.new] at this
   cases this
def aBu (X : Cx) : Option Str -> Option Nat -> Prop
 | none, none => True
 | some n, some i => X.N.Nodup /\ X.N[i]? = some n /\ X.env.scope.names.lookup n = some .local
 | _, _ => False
theorem UD {x : Str} {np pos : Pos} {nm : Option Str} {b₀ : Stmt} {suite : List Stmt} {hs : List ExceptHandler} {h : HR} {rs : List HR} (bd : Body X) (hc : LB X x h.c) (hg : Gl X x) (hd : (x == ("__debug__" : Str)) = false)
 (hn : aBu X nm h.n)
 (hS : ∀ e, PSs (hCx X e) (b₀ :: suite) h.t) (hR : MP X hs rs) : MP X (.ExceptHandler (some (.Name x np)) nm (b₀ :: suite) pos :: hs) (h :: rs) := by
 intro pins D e c dx σ H s B E ok I k F hq
 obtain ⟨b, hb, hq⟩ := hq
 have bp : Body (rJ X pins) := ⟨bd.stk, bd.fr, bd.ex⟩
 obtain ⟨oe, vs, he, hoc, _, hv⟩ := F.obj
 have LT : PySem.W.Looks (model X.prog X.w) s.heap (typeOf (.ref e)) c := hoc ▸ (PySem.W.Looks.ld he).andThen .now
 have IH := (I.ofP ok).toH e
 have hA : (hCx X e).A = X.A.mark (some (.ref e)) := rfl
 refine wpAny_handleBy_cons (codeAny_handlers_test (WQ (X := hCx X e) hc IH hg hd ?_)) (by intro z; cases z)
 refine (PySem.W.exm_one IH.kIn LT hb).here ?_
 cases b with
 | false => exact hR pins D e c dx σ H s B E ok I k F hq
 | true =>
  rw [if_pos rfl] at hq
  have F' : Fly B (rJ X pins).stack e c dx (some .none) s.heap := F
  have go : ∀ (P : Shared -> Prop), (∀ s', Inv X pins σ (upd H e (.ext (jL e c dx false))) s' -> P s') -> wpAny (model X.prog X.w) (X.A.mark (some (.ref e))) (setFlight (.ref e) none) (fun _ s1 => P s1) (notedBy (model X.prog X.w) (X.A.mark (some (.ref e))) X.env fun x s' => cameBackBy (model X.prog X.w) X.A X.env E x s') s := fun P hP => by
   refine rV (fo := none) F' fun h1 F1 u1 => hP _ ?_
   obtain ⟨I1, k1⟩ := I.up bp k F1.stays u1
   obtain ⟨n1, n2, n3⟩ := Fly.fresh (s := { s with heap := h1 }) (h := h1) bp I1 k1 F1
   obtain ⟨oe1, vs1, he1, hc1, hd1, hv1⟩ := F1.obj
   have I2 := Inv.track I1 he1 hv1 n1 n2 fun p hp => n3 p (by rw [List.append_nil] at hp; exact hp)
   rw [hc1, hd1] at I2
   exact I2.ofP ok
  have hne : H e = none := (Fly.fresh (h := s.heap) bp I k F').1
  have q0 := hq e hne
  cases nm with
  | none =>
   cases hni : h.n with
   | some i => rw [hni] at hn; exact False.elim hn
   | none =>
    rw [hni] at q0
    refine codeAny_handlers_suite (go _ fun s1 I1 => ?_)
    refine wpAny_mono (hS e pins s1 σ _ (JB D none) (I1.toH e) q0) (fun f s2 z => ?_) fun _ _ z => z.elim
    cases f with
    | next => obtain ⟨σ', H', I', q⟩ := z; exact ⟨σ', H', I'.ofH ok, q⟩
    | brk => obtain ⟨σ', H', I', q⟩ := z; exact ⟨σ', H', I'.ofH ok, q⟩
    | cont => obtain ⟨σ', H', I', q⟩ := z; exact ⟨σ', H', I'.ofH ok, q⟩
    | ret u => obtain ⟨v, σ', H', I', r, q⟩ := z; exact ⟨v, σ', H', I'.ofH ok, r, q⟩
  | some n =>
   cases hni : h.n with
   | none => rw [hni] at hn; exact False.elim hn
   | some i =>
    rw [hni] at hn q0
    obtain ⟨nd, hi, lo⟩ := hn
    refine codeAny_handlers_suite_as (go _ fun s1 I1 => ?_)
    refine mC (X := X) I1 nd hi (.inl lo) (v := .ref e) rfl (fun s2 I2 => ?_) (.inr lo)
    refine wpAny_mono (hS e pins s2 _ _ (JB D (some i)) (I2.toH e) q0) (fun f s3 z => ?_) fun _ _ z => z.elim
    show wpAny _ _ _ (fun _ s₃ => SP X pins D f s₃) E s3
    cases f with
    | next => obtain ⟨σ', H', I', q⟩ := z; exact mL (I'.ofH ok) nd hi lo fun s4 I4 => ⟨_, H', I4, q⟩
    | brk => obtain ⟨σ', H', I', q⟩ := z; exact mL (I'.ofH ok) nd hi lo fun s4 I4 => ⟨_, H', I4, q⟩
    | cont => obtain ⟨σ', H', I', q⟩ := z; exact mL (I'.ofH ok) nd hi lo fun s4 I4 => ⟨_, H', I4, q⟩
    | ret u => obtain ⟨v, σ', H', I', r, q⟩ := z; exact mL (I'.ofH ok) nd hi lo fun s4 I4 => ⟨v, _, H', I4, r, q⟩
def aAe (K : PySem.W.Frag) (tb : (St -> XK) -> TS) (rs : List HR) : TS := fun D σ H => tb (tHs K D rs) D σ H
theorem WM {body : List Stmt} {h₀ : ExceptHandler} {hs : List ExceptHandler} {pos : Pos} {tb : (St -> XK) -> TS} {rs : List HR} (bd : Body X)
 (hb : ∀ pins EE, PSs ((rJ X pins).wish (XS (rJ X pins) EE)) body (tb EE)) (hh : MP X (h₀ :: hs) rs) : PS X (.Try body (h₀ :: hs) [] [] pos) (aAe X.K tb rs) := by
 intro pins s σ H D I h
 have bp : Body (rJ X pins) := ⟨bd.stk, bd.fr, bd.ex⟩
 refine wpAny_Try_except (wpAny_mono (hb pins (tHs X.K D rs) [] s σ H D (I.toP.wish _) h) (fun f s1 z => ?_) fun ev s1 z => ?_)
 · cases f with
   | next => obtain ⟨σ', H', I', q⟩ := z; exact wpAny_execs_nil ⟨σ', H', I'.unwish.ofP I.ok, q⟩
   | brk => obtain ⟨σ', H', I', q⟩ := z; exact ⟨σ', H', I'.unwish.ofP I.ok, q⟩
   | cont => obtain ⟨σ', H', I', q⟩ := z; exact ⟨σ', H', I'.unwish.ofP I.ok, q⟩
   | ret u => obtain ⟨v, σ', H', I', r, q⟩ := z; exact ⟨v, σ', H', I'.unwish.ofP I.ok, r, q⟩
 · obtain ⟨e, c, dx, st, σ1, H1, B, rfl, I1, k1, F1, hst, q⟩ := z
   have hf := I1.ok.frames
   have F1' := F1
   rw [bp.stk] at F1' hf
   refine xS hf bp.fr F1' hst fun h2 F2 u2 => rV (s := { s1 with heap := h2 }) (fo := none) F2 fun h3 F3 u3 => ?_
   obtain ⟨I2, k2⟩ := I1.up bp k1 F2.stays u2
   obtain ⟨I3, k3⟩ := I2.up bp k2 F3.stays u3
   exact hh pins D e c dx σ1 H1 _ B _ I.ok I3 k3 (by rw [bd.stk]; exact F3) q
end
end L2
end
section
set_option Elab.async false
set_option linter.all false
set_option maxRecDepth 100000
set_option maxHeartbeats 4000000
namespace L2
open PySem PySem.Spec PyProof.Rows
structure Exc where
 nm : Str
 fs : List (Str × CD)
inductive Rs where
 | v (x : CD) | x (e : Exc)
inductive OutX where
 | o (o : Out) | xc (γ : Ga) (e : Exc)
abbrev EX := Ga -> Sto -> Option (Rs × Sto)
abbrev AX := Ga -> Sto -> Option ((List CD ⊕ Exc) × Sto)
abbrev SFX := Ga -> Sto -> Option (OutX × Sto)
abbrev FX := List CD -> Sto -> Option (Rs × Sto)
section
variable (K : PySem.W.Frag)
def ExR (W : Wd) (ex : Exc) (c : Value) (dx : Option Addr) : Prop := c = .ref (aP K ex.nm) /\ RepX K W dx ex.fs
def VY (E : XK) (Q : VK) (W : Wd) (H : Hp) : Rs -> Prop
 | .v x => ∀ v, RepV K W x v -> Q v H
 | .x ex => ∀ c dx, ExR K W ex c dx -> E c dx H
def SEX (EE : St -> XK) (t : TE) (f : EX) : Prop := ∀ γ M r M', f γ M = some (r, M') -> ∀ (W : Wd) (H : Hp) (σ : St) (Q : VK), Good K W M H -> RepS K W γ σ -> (∀ W' H', W.Ext W' -> Good K W' M' H' -> VY K (EE σ) Q W' H' r) -> t σ H Q
def aCi (E : XK) (Q : List V -> Hp -> Prop) (W : Wd) (H : Hp) : List CD ⊕ Exc -> Prop
 | .inl xs => ∀ vs, RepVs K W xs vs -> Q vs H
 | .inr ex => ∀ c dx, ExR K W ex c dx -> E c dx H
def SAX (EE : St -> XK) (t : TA) (f : AX) : Prop := ∀ γ M r M', f γ M = some (r, M') -> ∀ (W : Wd) (H : Hp) (σ : St) (Q : List V -> Hp -> Prop), Good K W M H -> RepS K W γ σ -> (∀ W' H', W.Ext W' -> Good K W' M' H' -> aCi K (EE σ) Q W' H' r) -> t σ H Q
def aAn (EE : St -> XK) (D : Ends) (W : Wd) (H : Hp) : OutX -> Prop
 | .o o => JH K D W H o
 | .xc γ ex => ∀ σ c dx, RepS K W γ σ -> ExR K W ex c dx -> EE σ c dx H
def SSX (EE : St -> XK) (t : TS) (f : SFX) : Prop := ∀ γ M o M', f γ M = some (o, M') -> ∀ (W : Wd) (H : Hp) (σ : St) (D : Ends), Good K W M H -> RepS K W γ σ -> (∀ W' H', W.Ext W' -> Good K W' M' H' -> aAn K EE D W' H' o) -> t D σ H
def spX (f : FX) : Sp := fun vs H Q E => ∃ xs M W r M', Good K W M H /\ RepVs K W xs vs /\ f xs M = some (r, M') /\ ∀ W' H', W.Ext W' -> Good K W' M' H' -> VY K E Q W' H' r
end
def liE (f : EF) : EX := fun γ M => (f γ M).bind fun r => some (.v r.1, r.2)
def liA (f : AF) : AX := fun γ M => (f γ M).bind fun r => some (.inl r.1, r.2)
def liS (f : SF) : SFX := fun γ M => (f γ M).bind fun r => some (.o r.1, r.2)
def sO (f : EX) (g : AX) : AX := fun γ M => (f γ M).bind fun r => match r.1 with
 | .x e => some (.inr e, r.2)
 | .v x => (g γ r.2).bind fun q => match q.1 with
  | .inr e => some (.inr e, q.2)
  | .inl xs => some (.inl (x :: xs), q.2)
def VA (f : EX) (k : CD -> Sto -> Option (Rs × Sto)) : EX := fun γ M => (f γ M).bind fun r => match r.1 with
 | .x e => some (.x e, r.2)
 | .v x => k x r.2
def KH (f : AX) (k : List CD -> Sto -> Option (Rs × Sto)) : EX := fun γ M => (f γ M).bind fun r => match r.1 with
 | .inr e => some (.x e, r.2)
 | .inl xs => k xs r.2
def DK (h : FX) (f : AX) : EX := KH f h
def HV (f : AX) : EX := KH f fun xs M => (lO xs).bind fun ds => if ds.length <= sizeLine then some (.v (.d (.tuple ds)), M) else none
def FZ (nm f : Str) (e : EX) : EX := VA e fun x M => (objOf nm M x).bind fun p => (p.2.lookup f).bind fun v => some (.v v, M)
def mW (f g : SFX) : SFX := fun γ M => (f γ M).bind fun r => match r.1 with
 | .o (.nx γ') => g γ' r.2
 | o => some (o, r.2)
def aBn (f : EX) : SFX := fun γ M => (f γ M).bind fun r => match r.1 with
 | .x e => some (.xc γ e, r.2)
 | .v x => some (.o (.rt x), r.2)
def ZU (f : EX) : SFX := fun γ M => (f γ M).bind fun r => match r.1 with
 | .x e => some (.xc γ e, r.2)
 | .v _ => some (.o (.nx γ), r.2)
def FF (f : EX) (g : GF) : SFX := fun γ M => (f γ M).bind fun r => match r.1 with
 | .x e => some (.xc γ e, r.2)
 | .v x => (g x γ r.2).bind fun q => some (.o (.nx q.1), q.2)
def HK (c : TF) (f g : SFX) : SFX := fun γ M => (c γ M).bind fun r => if r.1 = true then f γ r.2 else g γ r.2
def qB (g : GF) (b : SFX) : List CD -> Ga -> Sto -> Option (OutX × Sto)
 | [], γ, M => some (.o (.nx γ), M)
 | x :: xs, γ, M => (g x γ M).bind fun r => (b r.1 r.2).bind fun q => match q.1 with
  | .o (.nx γ') => qB g b xs γ' q.2
  | .o (.ct γ') => qB g b xs γ' q.2
  | .o (.bk γ') => some (.o (.nx γ'), q.2)
  | .o (.rt x) => some (.o (.rt x), q.2)
  | .xc γ' e => some (.xc γ' e, q.2)
def zJ (f : AF) (g : GF) (b : SFX) : SFX := fun γ M => (f γ M).bind fun r => qB g b r.1 γ r.2
def yH (nm : Str) : SFX := fun γ M => some (.xc γ ⟨nm, []⟩, M)
def fnX (ps N : Nat) (b : SFX) : FX := fun xs M => if xs.length = ps then (b (xs.map some ++ List.replicate (N - xs.length) none) M).bind fun r => match r.1 with
 | .o (.rt x) => some (.v x, r.2)
 | .o (.nx _) => some (.v (.d .none), r.2)
 | .xc _ e => some (.x e, r.2)
 | _ => none else none
def OH : Option Nat -> Ga -> Ga
 | none, γ => γ
 | some i, γ => γ.set i none
def setG : Option Nat -> Ga -> CD -> Ga
 | none, γ, _ => γ
 | some i, γ, x => γ.set i (some x)
def WW (n : Option Nat) : Out -> Out
 | .nx γ => .nx (OH n γ)
 | .bk γ => .bk (OH n γ)
 | .ct γ => .ct (OH n γ)
 | .rt x => .rt x
structure HMi where
 tab : List (Str × Bool)
 n : Option Nat
 f : SF
def JP : List HMi -> Ga -> Exc -> Sto -> Option (Out × Sto)
 | [], _, _, _ => none
 | h :: r, γ, ex, M => match h.tab.lookup ex.nm with
  | some true => (h.f (setG h.n γ (.c M.length)) (M ++ [.exc false ex.nm ex.fs])).bind fun q => some (WW h.n q.1, q.2)
  | some false => JP r γ ex M
  | none => none
def UL (b : SFX) (hs : List HMi) : SF := fun γ M => (b γ M).bind fun r => match r.1 with
 | .o o => some (o, r.2)
 | .xc γ' ex => JP hs γ' ex r.2
section
variable {K : PySem.W.Frag} {EE : St -> XK} {ta tb : TE} {tA : TA} {t u : TS} {f g : EX} {fa : AX} {p q : SFX} {tt : TT} {ft : TF} {tg : TG} {hg : GF}
theorem aBd {f : EF} (a : SE K ta f) : SEX K EE ta (liE f) := by
 intro γ M r M' h W H σ Q G R k
 obtain ⟨⟨x, M1⟩, h1, h⟩ := aH h
 cases h
 exact a _ _ _ _ h1 W H σ Q G R fun v W' H' e G' rv => k W' H' e G' v rv
theorem aAq {f : AF} (a : SA K tA f) : SAX K EE tA (liA f) := by
 intro γ M r M' h W H σ Q G R k
 obtain ⟨⟨x, M1⟩, h1, h⟩ := aH h
 cases h
 exact a _ _ _ _ h1 W H σ Q G R fun v W' H' e G' rv => k W' H' e G' v rv
theorem JC {f : SF} (a : SS K t f) : SSX K EE t (liS f) := by
 intro γ M r M' h W H σ D G R k
 obtain ⟨⟨x, M1⟩, h1, h⟩ := aH h
 cases h
 exact a _ _ _ _ h1 W H σ D G R fun W' H' e G' => k W' H' e G'
theorem KQ (a : SEX K EE ta f) (b : SAX K EE tA fa) : SAX K EE (mI ta tA) (sO f fa) := by
 intro γ M r M' h W H σ Q G R k
 obtain ⟨⟨x, M1⟩, h1, h⟩ := aH h
 refine a _ _ _ _ h1 W H σ _ G R fun W1 H1 e1 G1 => ?_
 cases x with
 | x e => cases h; exact k W1 H1 e1 G1
 | v x =>
  intro v rv
  obtain ⟨⟨y, M2⟩, h2, h⟩ := aH (show (fa γ M1).bind _ = _ from h)
  refine b _ _ _ _ h2 W1 H1 σ _ G1 (R.up e1) fun W2 H2 e2 G2 => ?_
  cases y with
  | inr e => cases h; exact k W2 H2 (e1.trans e2) G2
  | inl xs => cases h; exact fun vs rs => k W2 H2 (e1.trans e2) G2 _ (.cons (rv.up e2) rs)
theorem UA (a : SAX K EE tA fa) : SEX K EE (JK tA) (HV fa) := by
 intro γ M r M' h W H σ Q G R k
 obtain ⟨⟨x, M1⟩, h1, h⟩ := aH h
 refine a _ _ _ _ h1 W H σ _ G R fun W1 H1 e1 G1 => ?_
 cases x with
 | inr e => cases h; exact k W1 H1 e1 G1
 | inl xs =>
  intro vs rs
  obtain ⟨ds, h2, h⟩ := aH (show (lO xs).bind _ = _ from h)
  have hl : ds.length <= sizeLine := by
   by_cases z : ds.length <= sizeLine
   · exact z
   · rw [if_neg z] at h; cases h
  rw [if_pos hl] at h
  cases h
  refine ⟨by rw [<- Paired.len rs, <- tX h2]; exact hl, fun b hb => ?_⟩
  obtain ⟨e2, G2⟩ := G1.lay (o := .tup vs) hb
  exact k _ _ (e1.trans e2) G2 _ ⟨b, vs, rfl, SqT.of aT, RepAll.same e2.ff _ _ (fI h2 rs)⟩
theorem HX {h : FX} (a : SAX K EE tA fa) : SEX K EE (JE (spX K h) EE tA) (DK h fa) := by
 intro γ M r M' hh W H σ Q G R k
 obtain ⟨⟨x, M1⟩, h1, hh⟩ := aH hh
 refine a _ _ _ _ h1 W H σ _ G R fun W1 H1 e1 G1 => ?_
 cases x with
 | inr e => cases hh; exact k W1 H1 e1 G1
 | inl xs => exact fun vs rs => ⟨xs, M1, W1, r, M', G1, rs, hh, fun W2 H2 e2 G2 => k W2 H2 (e1.trans e2) G2⟩
theorem TL {nm fl : Str} (c : Cls K (aP K nm)) (n : NoAttr K (aP K nm) fl) (a : SEX K EE ta f) : SEX K EE (QP K ta fl) (FZ nm fl f) := by
 intro γ M r M' hh W H σ Q G R k
 obtain ⟨⟨x, M1⟩, h1, hh⟩ := aH hh
 refine a _ _ _ _ h1 W H σ _ G R fun W1 H1 e1 G1 => ?_
 cases x with
 | x e => cases hh; exact k W1 H1 e1 G1
 | v x =>
  intro v rv
  obtain ⟨⟨i, fs⟩, h2, hh⟩ := aH (show (objOf nm M1 x).bind _ = _ from hh)
  obtain ⟨y, h3, hh⟩ := aH hh
  cases hh
  obtain ⟨rfl, hi⟩ := oO h2
  obtain ⟨dx, us, ho, hp⟩ := G1.objAt hi
  obtain ⟨u, hu, ru⟩ := mK hp h3
  exact ⟨_, _, dx, us, u, rv.2, ho, c, n, hu, k W1 H1 e1 G1 u ru⟩
theorem RB (a : SSX K EE t p) (b : SSX K EE u q) : SSX K EE (XR t u) (mW p q) := by
 intro γ M o M' hh W H σ D G R k
 obtain ⟨⟨x, M1⟩, h1, hh⟩ := aH hh
 refine a _ _ _ _ h1 W H σ _ G R fun W1 H1 e1 G1 => ?_
 cases x with
 | xc γ' e => cases hh; exact k W1 H1 e1 G1
 | o x =>
  cases x with
  | nx γ' => exact fun σ' R' => b _ _ _ _ hh W1 H1 σ' D G1 R' fun W2 H2 e2 G2 => k W2 H2 (e1.trans e2) G2
  | bk γ' => cases hh; exact k W1 H1 e1 G1
  | ct γ' => cases hh; exact k W1 H1 e1 G1
  | rt x => cases hh; exact k W1 H1 e1 G1
theorem PL (a : SEX K EE ta f) (b : SG K tg hg) : SSX K EE (NS ta tg) (FF f hg) := by
 intro γ M o M' hh W H σ D G R k
 obtain ⟨⟨x, M1⟩, h1, hh⟩ := aH hh
 refine a _ _ _ _ h1 W H σ _ G R fun W1 H1 e1 G1 => ?_
 cases x with
 | x e => cases hh; exact fun c dx z => k W1 H1 e1 G1 σ c dx (R.up e1) z
 | v x =>
  intro v rv
  obtain ⟨⟨γ2, M2⟩, h2, hh⟩ := aH (show (hg x γ M1).bind _ = _ from hh)
  cases hh
  exact b _ _ _ _ _ h2 W1 H1 σ v _ G1 (R.up e1) rv fun σ2 W2 H2 e2 G2 R2 => k W2 H2 (e1.trans e2) G2 σ2 R2
theorem ZI (c : STt K tt ft) (a : SSX K EE t p) (b : SSX K EE u q) : SSX K EE (aBb tt t u) (HK ft p q) := by
 intro γ M o M' hh W H σ D G R k
 obtain ⟨⟨x, M1⟩, h1, hh⟩ := aH hh
 refine c _ _ _ _ h1 W H σ _ G R fun W1 H1 e1 G1 => ?_
 cases x with
 | true => rw [if_pos rfl]; rw [if_pos rfl] at hh; exact a _ _ _ _ hh W1 H1 σ D G1 (R.up e1) fun W2 H2 e2 G2 => k W2 H2 (e1.trans e2) G2
 | false => rw [if_neg Bool.false_ne_true]; rw [if_neg Bool.false_ne_true] at hh; exact b _ _ _ _ hh W1 H1 σ D G1 (R.up e1) fun W2 H2 e2 G2 => k W2 H2 (e1.trans e2) G2
theorem GV {nm : Str} : SSX K EE (xI EE (aP K nm)) (yH nm) := by
 intro γ M o M' hh W H σ D G R k
 cases hh
 exact k W H (.refl _) G σ _ none R ⟨rfl, rfl⟩
theorem SC {wi : TI} {fi : AF} (i : SI K wi fi) (a : SG K tg hg) (b : SSX K EE t p) : SSX K EE (XU wi tg t) (zJ fi hg p) := by
 intro γ M o M' hh W H σ D G R k
 obtain ⟨⟨xs, M1⟩, h1, hh⟩ := aH hh
 have hh : qB hg p xs γ M1 = some (o, M') := hh
 refine i _ _ _ _ h1 W H σ _ G R fun J W1 H1 e1 G1 gv => ?_
 refine ⟨fun j m σ' H' => ∃ γ' M2 W2, j <= xs.length /\ m = xs.length - j /\ W1.Ext W2 /\ Good K W2 M2 H' /\ RepS K W2 γ' σ' /\ qB hg p (xs.drop j) γ' M2 = some (o, M'), ⟨_, γ, M1, W1, Nat.zero_le _, rfl, .refl _, G1, R.up e1, hh⟩, ?_⟩
 rintro j m σ' H' ⟨γ', M2, W2, hj, rfl, e2, G2, R2, h2⟩
 obtain ⟨gv1, gv2⟩ := gv W2 M2 H' e2 G2
 by_cases hlt : j < xs.length
 · obtain ⟨go, yl⟩ := gv1 j xs[j] (List.getElem?_eq_getElem hlt)
   rw [List.drop_eq_getElem_cons hlt] at h2
   refine .inr ⟨go, fun σ3 H3 => ∃ γ3 M3 W3, W2.Ext W3 /\ Good K W3 M3 H3 /\ RepS K W3 γ3 σ3 /\ qB hg p (xs.drop (j + 1)) γ3 M3 = some (o, M'), ?_, fun y H3 hy => ?_⟩
   · rintro σ3 H3 ⟨γ3, M3, W3, e3, G3, R3, h3⟩
     exact ⟨_, by omega, γ3, M3, W3, hlt, rfl, e2.trans e3, G3, R3, h3⟩
   · obtain ⟨W8, e8, G8, ry⟩ := yl y H3 hy
     obtain ⟨⟨γ4, M4⟩, h4, h2⟩ := aH (show (hg xs[j] γ' M2).bind _ = _ from h2)
     obtain ⟨⟨o5, M5⟩, h5, h2⟩ := aH h2
     refine a _ _ _ _ _ h4 W8 _ σ' y _ G8 (R2.up e8) ry fun σ4 W4 H4 e4 G4 R4 => ?_
     refine b _ _ _ _ h5 W4 H4 σ4 _ G4 R4 fun W5 H5 e5 G5 => ?_
     have e25 := (e8.trans e4).trans e5
     cases o5 with
     | xc γ5 e => cases h2; exact k W5 H5 ((e1.trans e2).trans e25) G5
     | o o5 =>
      cases o5 with
      | nx γ5 => exact fun σ5 R5 => ⟨γ5, M5, W5, e25, G5, R5, h2⟩
      | ct γ5 => exact fun σ5 R5 => ⟨γ5, M5, W5, e25, G5, R5, h2⟩
      | bk γ5 => cases h2; exact k W5 H5 ((e1.trans e2).trans e25) G5
      | rt x => cases h2; exact k W5 H5 ((e1.trans e2).trans e25) G5
 · have e : j = xs.length := by omega
   subst e
   rw [List.drop_length] at h2
   cases h2
   exact .inl ⟨gv2, k W2 H' (e1.trans e2) G2 σ' R2⟩
theorem RepS.setN {W : Wd} {γ : Ga} {σ : St} {n : Option Nat} {x : CD} {v : V} (R : RepS K W γ σ) (r : RepV K W x v) : RepS K W (setG n γ x) (setN n σ v) := by
 cases n with
 | none => exact R
 | some i => exact Paired.set (x := some x) (y := some v) r i R
theorem RepS.unbN {W : Wd} {γ : Ga} {σ : St} {n : Option Nat} (R : RepS K W γ σ) : RepS K W (OH n γ) (unbN n σ) := by
 cases n with
 | none => exact R
 | some i => exact Paired.set (x := none) (y := none) True.intro i R
inductive HsM (K : PySem.W.Frag) : List HR -> List HMi -> Prop
 | nil : HsM K [] []
 | cons {h : HR} {m : HMi} {hs : List HR} {ms : List HMi} (hn : h.n = m.n) (ht : ∀ nm b, m.tab.lookup nm = some b -> PySem.W.exmOne K (.ref (aP K nm)) h.c = some b) (hS : SS K h.t m.f) (r : HsM K hs ms) : HsM K (h :: hs) (m :: ms)
theorem MM {D : Ends} {W : Wd} {M M' : Sto} {H : Hp} {γ : Ga} {σ : St} {ex : Exc} {c : Value} {dx : Option Addr} {o : Out} (G : Good K W M H) (R : RepS K W γ σ) (E : ExR K W ex c dx) :
 ∀ {hs : List HR} {ms : List HMi}, HsM K hs ms -> JP ms γ ex M = some (o, M') -> (∀ W' H', W.Ext W' -> Good K W' M' H' -> JH K D W' H' o) -> tHs K D hs σ c dx H
 | _, _, .nil, h, _ => by cases h
 | _, _, @HsM.cons _ h m hs ms hn ht hS r, hh, k => by
  obtain ⟨rfl, rx⟩ := E
  unfold JP at hh
  cases e : m.tab.lookup ex.nm with
  | none => rw [e] at hh; cases hh
  | some b =>
   rw [e] at hh
   refine ⟨b, ht _ _ e, ?_⟩
   cases b with
   | false => rw [if_neg Bool.false_ne_true]; exact MM G R ⟨rfl, rx⟩ r hh k
   | true =>
    rw [if_pos rfl]
    intro a ha
    obtain ⟨⟨o1, M1⟩, h1, hh⟩ := aH (show (m.f _ _).bind _ = _ from hh)
    have hh' : some (WW m.n o1, M1) = some (o, M') := hh
    cases hh'
    have G' : Good K (W.more a) (M ++ [.exc false ex.nm ex.fs]) (upd H a (.ext (jL a (.ref (aP K ex.nm)) dx false))) := G.new ha ⟨dx, rfl, rx⟩
    have e1 := W.ext_more a
    have ra : RepV K (W.more a) (.c M.length) (.ref a) := ⟨by show M.length < W.n + 1; rw [G.n]; exact Nat.lt_succ_self _, by show _ = V.ref (if M.length = W.n then a else _); rw [if_pos G.n.symm]⟩
    rw [hn]
    refine hS _ _ _ _ h1 (W.more a) _ _ _ G' ((R.up e1).setN ra) fun W2 H2 e2 G2 => ?_
    have kk := k W2 H2 (e1.trans e2) G2
    cases o1 with
    | nx γ2 => exact fun σ2 R2 => kk _ R2.unbN
    | bk γ2 => exact fun σ2 R2 => kk _ R2.unbN
    | ct γ2 => exact fun σ2 R2 => kk _ R2.unbN
    | rt x => exact kk
theorem aAy {tb : (St -> XK) -> TS} {rs : List HR} {ms : List HMi} (b : ∀ EE, SSX K EE (tb EE) p) (h : HsM K rs ms) : SS K (aAe K tb rs) (UL p ms) := by
 intro γ M o M' hh W H σ D G R k
 obtain ⟨⟨x, M1⟩, h1, hh⟩ := aH hh
 refine b _ _ _ _ _ h1 W H σ D G R fun W1 H1 e1 G1 => ?_
 cases x with
 | o x => cases hh; exact k W1 H1 e1 G1
 | xc γ' ex => exact fun σ' c dx R' E => MM G1 R' E h hh fun W2 H2 e2 G2 => k W2 H2 (e1.trans e2) G2
end
end L2
end
section
set_option Elab.async false
set_option linter.all false
set_option maxRecDepth 100000
set_option maxHeartbeats 4000000
namespace L2
open PySem PySem.Spec PyProof.Rows
section
variable {ι : Type}
structure MX (K : PySem.W.Frag) (X : ι -> Cx) (EE : ι -> St -> XK) (e : Expr) (f : EX) : Prop where
 ex : ∃ t : ι -> TE, (∀ i, PE (X i) e (t i)) /\ ∀ i, SEX K (EE i) (t i) f
structure MAX (K : PySem.W.Frag) (X : ι -> Cx) (EE : ι -> St -> XK) (es : List Expr) (f : AX) : Prop where
 ex : ∃ t : ι -> TA, (∀ i, PA (X i) es (t i)) /\ ∀ i, SAX K (EE i) (t i) f
 st : Stars es
structure MSX (K : PySem.W.Frag) (X : ι -> Cx) (EE : ι -> St -> XK) (st : Stmt) (f : SFX) : Prop where
 ex : ∃ t : ι -> TS, (∀ i, PS (X i) st (t i)) /\ ∀ i, SSX K (EE i) (t i) f
structure MLX (K : PySem.W.Frag) (X : ι -> Cx) (EE : ι -> St -> XK) (st : List Stmt) (f : SFX) : Prop where
 ex : ∃ t : ι -> TS, (∀ i, PSs (X i) st (t i)) /\ ∀ i, SSX K (EE i) (t i) f
variable {K : PySem.W.Frag} {X : ι -> Cx} {EE : ι -> St -> XK} {e a b c tg iter : Expr} {es : List Expr} {f g : EX} {fa : AX} {p q : SFX} {ft : TF} {gf : GF} {st : Stmt} {sts sts' : List Stmt} {pos : Pos}
theorem aCl {f : EF} (x : ME K X e f) : MX K X EE e (liE f) := by
 obtain ⟨t, x1, x2⟩ := x.ex
 exact ⟨fun _ => t, x1, fun _ => aBd x2⟩
theorem JS {f : AF} (x : MA K X es f) : MAX K X EE es (liA f) := by
 obtain ⟨t, x1, x2⟩ := x.ex
 exact ⟨⟨fun _ => t, x1, fun _ => aAq x2⟩, x.st⟩
theorem OB {f : SF} (x : MS K X st f) : MSX K X EE st (liS f) := by
 obtain ⟨t, x1, x2⟩ := x.ex
 exact ⟨fun _ => t, x1, fun _ => JC x2⟩
theorem pX {f : SF} (x : ML K X sts f) : MLX K X EE sts (liS f) := by
 obtain ⟨t, x1, x2⟩ := x.ex
 exact ⟨fun _ => t, x1, fun _ => JC x2⟩
theorem max_cons (x : MX K X EE e f) (y : MAX K X EE es fa) (hs : GU e es := by intro _; rfl) : MAX K X EE (e :: es) (sO f fa) := by
 obtain ⟨t, x1, x2⟩ := x.ex; obtain ⟨u, y1, y2⟩ := y.ex
 exact ⟨⟨_, fun i => gJ (x1 i) (y1 i) (hs _), fun i => KQ (x2 i) (y2 i)⟩, hs, y.st⟩
theorem WJ {k : Nat} (x : MAX K X EE es fa) : MX K X EE (.Tuple es k pos) (HV fa) := by
 obtain ⟨t, x1, x2⟩ := x.ex
 exact ⟨_, fun i => wY (x1 i), fun i => UA (x2 i)⟩
theorem TY {k : Nat} {x : Str} {ps : List Str} {F : FX} {p : Pos} (ok : ∀ i, XOk (X i) (EE i)) (C : ∀ i, rO (X i).prog (X i).w (X i).K (X i).mg (X i).base k x ps (spX K F)) (hr : ∀ i, Room k (X i).A) (y : MAX K X EE (e :: es) fa) (hg : ∀ i, Gl (X i) x := by intro _; rfl) (hd : (x == ("__debug__" : Str)) = false := by decide) :
 MX K X EE (.Call (.Name x p) (e :: es) [] pos) (DK F fa) := by
 obtain ⟨u, y1, y2⟩ := y.ex
 exact ⟨_, fun i => PZ (ok i) (C i) (hr i) (y1 i) (hg i) hd (y.st.1 _) (y.st.2.plain _ _), fun i => HX (y2 i)⟩
theorem rQ (x : MSX K X EE st p) : MLX K X EE [st] p := by
 obtain ⟨t, x1, x2⟩ := x.ex
 exact ⟨t, fun i => FE (x1 i), x2⟩
theorem iJ (x : MSX K X EE st p) (y : MLX K X EE sts q) : MLX K X EE (st :: sts) (mW p q) := by
 obtain ⟨t, x1, x2⟩ := x.ex; obtain ⟨u, y1, y2⟩ := y.ex
 exact ⟨_, fun i => BE (x1 i) (y1 i), fun i => RB (x2 i) (y2 i)⟩
theorem QC (i : Nat) {x' : Str} {pos' : Pos} (hN : ∀ j, (X j).N.Nodup) (x : MX K X EE e f) (hi : ∀ j, (X j).N[i]? = some x' := by intro _; rfl) (hx : ∀ j, Loc (X j).env.scope x' := by intro _; first | exact Or.inl rfl | exact Or.inr rfl) (hs : ∀ j, swapsWith e (some (.Name x' pos')) pos.line (X j).env = pure false := by intro _; rfl)
 (hf : ∀ j, (X j).fn x' = true \/ (X j).env.scope.names.lookup x' = some .local := by intro _; first | exact .inl rfl | exact .inr rfl) : MSX K X EE (.Assign [.Name x' pos'] e pos) (FF f (hName i)) := by
 obtain ⟨t, x1, x2⟩ := x.ex
 exact ⟨_, fun j => OG (hN j) (hi j) (hx j) (x1 j) (hs j) (hf j), fun j => PL (x2 j) rY⟩
theorem BJ (x : MT K X c ft) (y : MLX K X EE sts p) (z : MLX K X EE sts' q) : MSX K X EE (.If c sts sts' pos) (HK ft p q) := by
 obtain ⟨t, x1, x2⟩ := x.ex; obtain ⟨u, y1, y2⟩ := y.ex; obtain ⟨v, z1, z2⟩ := z.ex
 exact ⟨_, fun i => VL (x1 i) (y1 i) (z1 i), fun i => ZI x2 (y2 i) (z2 i)⟩
theorem RJ {fi : AF} (ok : ∀ i, XOk (X i) (EE i)) (hc : ∀ i, (X i).calm = true) (x : MI K X tg iter fi) (y : MG K X tg gf) (z : MLX K X EE sts p) (hs : ∀ (env : Env) (x : Value), foldedSetIterable iter env x = pure x := by intro _ _; rfl) : MSX K X EE (.For tg iter sts [] pos) (zJ fi gf p) := by
 obtain ⟨t, x1, x2⟩ := x.ex; obtain ⟨u, y1, y2⟩ := y.ex; obtain ⟨v, z1, z2⟩ := z.ex
 exact ⟨_, fun i => II (ok i).own (hc i) (x1 i) (y1 i) (z1 i) (hs _), fun i => SC x2 y2 (z2 i)⟩
theorem BV {x : Str} {np cpos : Pos} (ok : ∀ i, XOk (X i) (EE i)) (hK : ∀ i, (X i).K = K) (hc : ∀ i, (X i).calm = true) (hm : ∀ i, (X i).mg x = some (.ref (aP K x))) (q : PySem.W.excIn K (aP K x) bmV "ValueError.__new__" = true) (hg : ∀ i, Gl (X i) x := by intro _; rfl) (hd : (x == ("__debug__" : Str)) = false := by decide) :
 MSX K X EE (.Raise (some (.Call (.Name x np) [] [] cpos)) none pos) (yH x) :=
 ⟨fun i => xI (EE i) (aP K x), fun i => GB (ok i) (hc i) (hm i) (by rw [hK i]; exact q) (hg i) hd, fun _ => GV⟩
def aBP (X : ι -> Cx) : ι × List (Addr × Obj) × (St -> XK) -> Cx := fun j => (rJ (X j.1) j.2.1).wish (XS (rJ (X j.1) j.2.1) j.2.2)
def aCK : ι × List (Addr × Obj) × (St -> XK) -> St -> XK := fun j => j.2.2
def aDc (X : ι -> Cx) : ι × Addr -> Cx := fun j => hCx (X j.1) j.2
theorem aBE (bd : ∀ i, Body (X i)) (j : ι × List (Addr × Obj) × (St -> XK)) : XOk (aBP X j) (aCK (ι := ι) j) :=
 XOk.of (X := rJ (X j.1) j.2.1) ⟨(bd j.1).stk, (bd j.1).fr, (bd j.1).ex⟩ _
structure MH (K : PySem.W.Frag) (X : ι -> Cx) (hs : List ExceptHandler) (ms : List HMi) : Prop where
 ex : ∃ rs, (∀ i, MP (X i) hs rs) /\ HsM K rs ms
theorem YJ : MH K X [] [] := ⟨[], fun _ => ZE, .nil⟩
theorem EM {x : Str} {np hp : Pos} {nm : Option Str} {b₀ : Stmt} {suite : List Stmt} {hs : List ExceptHandler} {ms : List HMi} {tab : List (Str × Bool)} {n : Option Nat} {f : SF} (cv : Value) (bd : ∀ i, Body (X i)) (hc : ∀ i, LB (X i) x cv)
 (hn : ∀ i, aBu (X i) nm n)
 (ht : ∀ p ∈ tab, PySem.W.exmOne K (.ref (aP K p.1)) cv = some p.2) (hS : ML K (aDc X) (b₀ :: suite) f) (r : MH K X hs ms) (hg : ∀ i, Gl (X i) x := by intro _; rfl) (hd : (x == ("__debug__" : Str)) = false := by decide) :
 MH K X (.ExceptHandler (some (.Name x np)) nm (b₀ :: suite) hp :: hs) (⟨tab, n, f⟩ :: ms) := by
 obtain ⟨t, h1, h2⟩ := hS.ex
 obtain ⟨rs, r1, r2⟩ := r.ex
 refine ⟨⟨cv, n, t⟩ :: rs, fun i => UD (h := ⟨cv, n, t⟩) (bd i) (hc i) (hg i) hd (hn i) (fun e => h1 (i, e)) (r1 i), .cons rfl (fun nm b z => ?_) h2 r2⟩
 exact ht (nm, b) (PySem.mem_of_lookup z)
theorem WH {h₀ : ExceptHandler} {hs : List ExceptHandler} {ms : List HMi} (bd : ∀ i, Body (X i)) (hK : ∀ i, (X i).K = K) (x : MLX K (aBP X) (aCK (ι := ι)) sts p) (h : MH K X (h₀ :: hs) ms) : MS K X (.Try sts (h₀ :: hs) [] [] pos) (UL p ms) := by
 obtain ⟨rs, r1, r2⟩ := h.ex
 obtain ⟨t, x1, x2⟩ := x.ex
 refine ⟨aAe K (fun EE D σ H => ∀ i pins, t (i, pins, EE) D σ H) rs, fun i => ?_, aAy (fun EE => ?_) r2⟩
 · have := WM (X := X i) (tb := fun EE D σ H => ∀ i pins, t (i, pins, EE) D σ H) (pos := pos) (bd i) (fun pins EE ps s σ H D I h => x1 (i, pins, EE) ps s σ H D I (h i pins)) (r1 i)
   rw [hK i] at this
   exact this
 · exact fun γ M o M' hh W H σ D G R k i pins => x2 (i, pins, EE) γ M o M' hh W H σ D G R k
section
variable {P : Program} {w : World} {K : PySem.W.Frag} {mg : Str -> Option Value} {base : Heap}
abbrev PD (P : Program) (w : World) (K : PySem.W.Frag) (mg : Str -> Option Value) (base : Heap) (N : List Str) (x : Str) (st : Stmt) (f : Addr) (cdv : Value) (A : Around) (outer : List Env) (s : Shared) (H : Hp) (E : XK) : Unit -> Cx := fun _ =>
 (jB (CX1 P w) P w K mg base N x (aG st) f cdv A outer s H E).wish (XS (jB (CX1 P w) P w K mg base N x (aG st) f cdv A outer s H E) fun _ => E)
theorem zA {N : List Str} {x : Str} {st : Stmt} {f : Addr} {cdv : Value} {A : Around} {outer : List Env} {s : Shared} {H : Hp} {E : XK} (i : Unit) : XOk (PD P w K mg base N x st f cdv A outer s H E i) ((fun _ _ => E : Unit -> St -> XK) i) := XOk.of DN _
theorem Fun.okXF {x qual : Str} {st : Stmt} {N ps : List Str} {k : Nat} {b : SFX} {f : Addr} {fd : FuncData} (Fu : Fun K x qual st f fd) (S : aS N ps (aG st))
 (hbody : ∀ (f : Addr) (cdv : Value) (A : Around) (outer : List Env) (s : Shared) (H : Hp) (E : XK), Room k (A.deeper (envOfC qual (aG st) s.heap.objs.size f cdv)) ->
  MLX K (PD P w K mg base N qual st f cdv A outer s H E) (fun _ _ => E) (bI st) b) : FnOk P w K mg base (CX1 P w) (k + 1) f fd ps (spX K (fnX ps.length N.length b)) := by
 obtain ⟨oc, od, kV, doc, pm, an, cdv, ct, osl, rfl, lk, hcd⟩ := Fu.ex
 have len : ∀ vs H Q E, spX K (fnX ps.length N.length b) vs H Q E -> vs.length = ps.length := fun vs H Q E h => by
  obtain ⟨xs, M, W, y, M', G, R, hf, _⟩ := h
  by_cases hl : xs.length = ps.length
  · rw [<- Paired.len R]; exact hl
  · unfold fnX at hf
    rw [if_neg hl] at hf; cases hf
 refine aAs lk hcd S len fun A outer s H vs Q E hr h => ?_
 obtain ⟨t, h1, h2⟩ := (hbody f cdv A outer s H E hr).ex
 refine ⟨t (), h1 (), ?_⟩
 obtain ⟨xs, M, W, r, M', G, R, hf, kk⟩ := h
 have hl : xs.length = ps.length := by
  by_cases hl : xs.length = ps.length
  · exact hl
  · unfold fnX at hf
    rw [if_neg hl] at hf; cases hf
 unfold fnX at hf
 rw [if_pos hl] at hf
 obtain ⟨⟨o, M1⟩, h3, hf⟩ := aH hf
 have hR : RepS K W (xs.map some ++ List.replicate (N.length - xs.length) none) (start N vs) := by
  unfold start
  rw [<- Paired.len R]
  exact Paired.app (RepVs.some R) (mH _)
 refine h2 () _ _ _ _ h3 W H _ _ G hR fun W1 H1 e1 G1 => ?_
 cases o with
 | xc γ e => cases hf; exact fun σ c dx _ z => kk W1 H1 e1 G1 c dx z
 | o o =>
  cases o with
  | rt x => cases hf; exact fun v r => kk W1 H1 e1 G1 v r
  | nx γ => cases hf; exact fun σ r => kk W1 H1 e1 G1 .non rfl
  | bk γ => cases hf
  | ct γ => cases hf
theorem Def.okX {x : Str} {st : Stmt} {N ps : List Str} {k : Nat} {b : SFX} (D : Def K mg x st) (S : aS N ps (aG st))
 (hb : ∀ (kV doc pm : Value) (an : Option Addr) (cdv ct : Value) (us : List Value), us.length = ps.length -> bindArgs (PySem.W.fnOf x x (cW st) (bI st) (aG st) .none kV doc pm an cdv ct) ⟨us, []⟩ = pure (ps.zip us))
 (hbody : ∀ (f : Addr) (cdv : Value) (A : Around) (outer : List Env) (s : Shared) (H : Hp) (E : XK), Room k (A.deeper (envOfC x (aG st) s.heap.objs.size f cdv)) ->
  MLX K (PD P w K mg base N x st f cdv A outer s H E) (fun _ _ => E) (bI st) b) : rO P w K mg base (k + 1) x ps (spX K (fnX ps.length N.length b)) := by
 obtain ⟨f, fd, Fu, m⟩ := D.ex
 exact ⟨f, fd, Fu.okXF S hbody, m, Fu.kp, Fu.binds hb⟩
end
end
structure XC (K : PySem.W.Frag) (C : Addr) : Prop where
 c : pH K C
 ha : PySem.W.findIn K (.ref C) "__class__" = some (some (.builtin "object.__class__"))
 hn : PySem.W.specialIn K (.builtin "object.__class__") "__get__" = some (some (.builtin "getset_descriptor.__get__"))
 htk : PySem.W.takesIn K (.builtin "object.__class__") = some true
 hm : PySem.W.mroIn K C (.type "object") = some true
def XW (H : Hp) : Option Addr -> Prop
 | none => True
 | some d => ∃ us, H d = some (.xd us)
inductive ClV : V -> Value -> Prop
 | own (C : Addr) : ClV (.ref C) (.ref C)
 | ty (T : String) : ClV (.ty T) (.type T)
theorem ClV.is {v : V} {c u : Value} (h : ClV v c) (r : RelV v u) : u = c := by cases h <;> exact r
def LI (K : PySem.W.Frag) : List V -> Hp -> VK -> Prop := fun xs H Q => ∃ v cv c b, xs = [v, cv] /\ ClV cv c /\ Q (.bl b) H /\
 ((v = .non /\ PySem.W.kitOne K (.type "NoneType") c = some b) \/ ∃ a C dx fr, v = .ref a /\ H a = some (.ext (jL a (.ref C) dx fr)) /\ XW H dx /\ XC K C /\ PySem.W.kitOne K (.ref C) c = some b)
section
variable {X : Cx} {K : PySem.W.Frag}
theorem MV {pins : List (Addr × Obj)} {σ : St} {H : Hp} {s : Shared} {a C : Addr} {dx : Option Addr} {fr : Bool} (I : Inv X pins σ H s) (h : H a = some (.ext (jL a (.ref C) dx fr))) (d : XW H dx) : ∃ ox od, PySem.W.InstAt s.heap a ox C od /\ ox.dict = dx := by
 obtain ⟨⟨o, vs, h1, h2, h3, h4, _⟩, _⟩ := I.hok a _ h
 have no : PySem.W.notCls o = true := by
  obtain ⟨_, _, dt, _⟩ := o
  cases h4
  rfl
 cases dx with
 | none => exact ⟨o, none, ⟨h1, h2, no, by rw [h3]; exact True.intro⟩, h3⟩
 | some d' =>
  obtain ⟨us, hd⟩ := d
  obtain ⟨od, q⟩ := (I.hok d' _ hd).there
  exact ⟨o, some od, ⟨h1, h2, no, by rw [h3]; exact q⟩, h3⟩
theorem HH : gV X (.builtin "isinstance") (LI X.K) := by
 intro pins s σ H vs us Q I r h
 obtain ⟨v, cv, c, b, rfl, rc, q, h⟩ := h
 obtain ⟨u, u', rfl, ru, ru'⟩ := vals2 r
 cases rc.is ru'
 rcases h with ⟨rfl, e⟩ | ⟨a, C, dx, fr, rfl, ha, d, xc, e⟩
 · cases (show u = Value.none from ru)
   exact PySem.W.kia_one PySem.W.kitx_none I.kIn True.intro e (fun z => nomatch z) fun tk => ⟨.bl _, H, I.tok tk, rfl, q⟩
 · cases (show u = Value.ref a from ru)
   obtain ⟨ox, od, J, _⟩ := MV I ha d
   exact PySem.W.kia_one (IW xc.c xc.ha xc.hn xc.htk xc.hm) I.kIn ⟨ox, od, J⟩ e (fun z => nomatch z) fun tk => ⟨.bl _, H, I.tok tk, rfl, q⟩
theorem aCA (h : X.K = K) : gV X (.builtin "isinstance") (LI K) := by subst h; exact HH
def nB (tab : List (Str × Bool)) (nn : Option Bool) (f : EF) : EF := fun γ M => (f γ M).bind fun r => match r.1 with
 | .c i => (match r.2[i]? with
  | some (.exc _ nm _) => (tab.lookup nm).bind fun b => some (.d (.bool b), r.2)
  | _ => none)
 | .d .none => nn.bind fun b => some (.d (.bool b), r.2)
 | _ => none
theorem RepX.ok {W : Wd} {H : Hp} {dx : Option Addr} {fs : List (Str × CD)} (r : RepX K W dx fs) (s : Same W.F H) : XW H dx := by
 cases dx with
 | none => exact True.intro
 | some d => obtain ⟨_, us, h, _⟩ := r; exact ⟨us, s _ _ h⟩
theorem Good.excAt {W : Wd} {M : Sto} {H : Hp} {i : Nat} {fr : Bool} {nm : Str} {fs : List (Str × CD)} (G : Good K W M H) (h : M[i]? = some (.exc fr nm fs)) : ∃ dx, H (W.α i) = some (.ext (jL (W.α i) (.ref (aP K nm)) dx fr)) /\ RepX K W dx fs := by
 obtain ⟨_, o, h2, h3⟩ := G.cs i _ h (by intro z; cases z)
 cases o with
 | ext φ =>
  obtain ⟨dx, rfl, r⟩ := h3
  exact ⟨dx, h2, r⟩
 | _ => exact False.elim h3
theorem RO {tab : List (Str × Bool)} {nn : Option Bool} {ta : TE} {f : EF} {cv : V} {c : Value} (hc : ClV cv c) (ht : ∀ p ∈ tab, XC K (aP K p.1) /\ PySem.W.kitOne K (.ref (aP K p.1)) c = some p.2) (hn : ∀ b, nn = some b -> PySem.W.kitOne K (.type "NoneType") c = some b)
 (a : SE K ta f) : SE K (tCB (LI K) (mI ta (mI (tC cv) HN))) (nB tab nn f) := by
 intro γ M x M' hh W H σ Q G R k
 obtain ⟨⟨y, M1⟩, h1, hh⟩ := aH hh
 refine a _ _ _ _ h1 W H σ _ G R fun v W1 H1 e1 G1 r1 => ?_
 cases y with
 | c i =>
  dsimp only at hh
  cases e : M1[i]? with
  | none => rw [e] at hh; cases hh
  | some cl =>
   rw [e] at hh
   cases cl with
   | exc fr nm fs =>
    obtain ⟨b, h2, hh⟩ := aH (show (tab.lookup nm).bind _ = _ from hh)
    cases hh
    obtain ⟨h3, h4⟩ := ht (nm, b) (PySem.mem_of_lookup h2)
    obtain ⟨dx, h5, h6⟩ := G1.excAt e
    exact ⟨v, cv, c, b, rfl, hc, k _ W1 H1 e1 G1 rfl, .inr ⟨_, _, dx, fr, r1.2, h5, h6.ok G1.fh, h3, h4⟩⟩
   | _ => cases hh
 | d y =>
  cases y with
  | none =>
   obtain ⟨b, h2, hh⟩ := aH (show nn.bind _ = _ from hh)
   cases hh
   exact ⟨v, cv, c, b, rfl, hc, k _ W1 H1 e1 G1 rfl, .inl ⟨r1, hn b h2⟩⟩
  | _ => cases hh
end
section
variable {ι : Type} {K : PySem.W.Frag} {X : ι -> Cx} {a : Expr} {f : EF} {pos : Pos}
theorem jH {y : Str} {C : Addr} (hm : ∀ i, (X i).mg y = some (.ref C)) (hg : ∀ i, Gl (X i) y := by intro _; rfl) (hd : (y == ("__debug__" : Str)) = false := by decide) : ∀ i p', PE (X i) (.Name y p') (tC (.ref C)) := fun i _ => EJ (hg i) (hm i) rfl hd
theorem UW {y : Str} {T : String} (hm : ∀ i, (X i).mg y = none) (hb : bootBuiltins y = some (.type T)) (hg : ∀ i, Gl (X i) y := by intro _; rfl) (hn : y ≠ "__name__" := by decide) (hd : (y == ("__debug__" : Str)) = false := by decide) : ∀ i p', PE (X i) (.Name y p') (tC (.ty T)) := fun i _ => rT (v := .ty T) (hg i) (hm i) hb rfl hn hd
theorem fF {y : Str} {p p' : Pos} {tab : List (Str × Bool)} {nn : Option Bool} {cv : V} {c : Value} (hK : ∀ i, (X i).K = K) (hc : ClV cv c) (hy : ∀ i p', PE (X i) (.Name y p') (tC cv)) (ht : ∀ p ∈ tab, XC K (aP K p.1) /\ PySem.W.kitOne K (.ref (aP K p.1)) c = some p.2) (hn : ∀ b, nn = some b -> PySem.W.kitOne K (.type "NoneType") c = some b)
 (x : ME K X a f) (hs : GU a [.Name y p']) (hm : ∀ i, (X i).mg "isinstance" = none) (hg : ∀ i, Gl (X i) "isinstance" := by intro _; rfl) : ME K X (.Call (.Name "isinstance" p) [a, .Name y p'] [] pos) (nB tab nn f) := by
 obtain ⟨t, x1, x2⟩ := x.ex
 exact ⟨_, fun i => pD (aCA (hK i)) (hg i) (hm i) boot_isinstance (gJ (x1 i) (gJ (hy i _) tO aW) (hs _)) (by decide) (by decide) (hs _) (jW aW pY), RO hc ht hn x2⟩
end
def aAc (h : FX) (f : AF) : EF := fun γ M => (f γ M).bind fun r => (h r.1 r.2).bind fun q => match q.1 with
 | .v x => some (x, q.2)
 | .x _ => none
theorem kQ : bootBuiltins "ValueError" = some (.type "ValueError") := by decide +kernel
section
variable {K : PySem.W.Frag} {cv : Value} {a : Str} {b : Bool} {l : List (Str × Bool)}
theorem yO : ∀ p ∈ ([] : List (Str × Bool)), PySem.W.exmOne K (.ref (aP K p.1)) cv = some p.2 := fun _ h => absurd h (by simp)
theorem mO (h : PySem.W.exmOne K (.ref (aP K a)) cv = some b) (r : ∀ p ∈ l, PySem.W.exmOne K (.ref (aP K p.1)) cv = some p.2) : ∀ p ∈ (a, b) :: l, PySem.W.exmOne K (.ref (aP K p.1)) cv = some p.2 := fun p hp => by
 rcases List.mem_cons.mp hp with rfl | z
 · exact h
 · exact r p z
theorem fD {b : Bool} (h : PySem.W.kitOne K (.type "NoneType") cv = some b) : ∀ c, some b = some c -> PySem.W.kitOne K (.type "NoneType") cv = some c := fun c e => by cases e; exact h
theorem jY {nm : Str} {C : Addr} (h : PySem.W.nsIn K mainGlobals nm = some (some (.ref C))) : aP K nm = C := by unfold aP; rw [h]
end
end L2
end
section
set_option Elab.async false
set_option linter.all false
set_option maxRecDepth 100000
set_option maxHeartbeats 4000000
namespace L2
open PySem PySem.Spec PyProof.Rows
mutual
def snap : Nat -> Sto -> CD -> Option PyData
 | _, _, .d x => some x
 | 0, _, .c _ => none
 | n + 1, M, .c i => match M[i]? with
  | some (.lst xs) => (pG n M xs).bind fun ds => some (.list ds)
  | _ => none
def pG : Nat -> Sto -> List CD -> Option (List PyData)
 | _, _, [] => some []
 | n, M, x :: xs => (snap n M x).bind fun d => (pG n M xs).bind fun ds => some (d :: ds)
end
section
variable {K : PySem.W.Frag} {W : Wd} {M : Sto} {H : Hp}
theorem Good.lstAt' (G : Good K W M H) {i : Nat} {xs : List CD} (h : M[i]? = some (.lst xs)) : ∃ vs, H (W.α i) = some (.lst vs) /\ RepVs K W xs vs := by
 obtain ⟨_, o, h2, h3⟩ := G.cs i _ h (by intro z; cases z)
 cases o with
 | lst vs => exact ⟨vs, h2, h3⟩
 | _ => exact False.elim h3
mutual
theorem sQ (G : Good K W M H) : ∀ (n : Nat) (x : CD) (d : PyData) (v : V), snap n M x = some d -> RepV K W x v -> Rep K H d v
 | 0, .d x, d, v, h, r => by unfold snap at h; cases h; exact Rep.same G.fh _ _ r
 | n + 1, .d x, d, v, h, r => by unfold snap at h; cases h; exact Rep.same G.fh _ _ r
 | 0, .c i, d, v, h, r => by unfold snap at h; cases h
 | n + 1, .c i, d, v, h, r => by
  unfold snap at h
  cases e : M[i]? with
  | none => rw [e] at h; cases h
  | some c =>
   rw [e] at h
   cases c with
   | lst xs =>
    obtain ⟨ds, h1, h⟩ := aH (show (pG n M xs).bind _ = _ from h)
    cases h
    obtain ⟨vs, h2, h3⟩ := G.lstAt' e
    exact ⟨W.α i, vs, r.2, SqL.of h2, vF G n xs ds vs h1 h3⟩
   | _ => cases h
theorem vF (G : Good K W M H) : ∀ (n : Nat) (xs : List CD) (ds : List PyData) (vs : List V), pG n M xs = some ds -> RepVs K W xs vs -> RepAll K H ds vs
 | _, [], ds, vs, h, r => by
  unfold pG at h
  cases h
  cases r
  rfl
 | n, x :: xs, ds, vs, h, r => by
  unfold pG at h
  obtain ⟨d, h1, h⟩ := aH h
  obtain ⟨es, h2, h⟩ := aH h
  cases h
  cases r with
  | @cons _ v _ vs' r1 r2 => exact ⟨v, vs', rfl, sQ G n x d v h1 r1, vF G n xs es vs' h2 r2⟩
end
end
theorem NF {n : Nat} {M : Sto} {x : PyData} : snap n M (.d x) = some x := by cases n <;> simp only [snap]
end L2
end
section
set_option Elab.async false
set_option linter.all false
set_option maxRecDepth 100000
set_option maxHeartbeats 4000000
namespace L2
open PySem PySem.Spec PyProof.Rows PySem.Builtin PySem.Builtin.ObjectAttr
def JW : List Value -> Bool
 | .ref _ :: r => JW r
 | l => l == bmV
theorem uM (self : Value) : ∀ {l : List Value}, JW l = true -> refuseLoop self "__setattr__" l = pure () /\ l.contains (.type "object") = true /\ l.isEmpty = false
 | [], e => absurd e (by decide)
 | .ref c :: r, e => by
  obtain ⟨h1, h2, _⟩ := uM self (l := r) e
  exact ⟨by rw [refuseLoop_ref]; exact h1, by rw [List.contains_cons, h2, Bool.or_true], rfl⟩
 | .none :: r, e => absurd (beq_iff_eq.mp (show ((.none :: r : List Value) == bmV) = true from e)) (by intro z; cases z)
 | .bool b :: r, e => absurd (beq_iff_eq.mp (show ((.bool b :: r : List Value) == bmV) = true from e)) (by intro z; cases z)
 | .int b t :: r, e => absurd (beq_iff_eq.mp (show ((.int b t :: r : List Value) == bmV) = true from e)) (by intro z; cases z)
 | .type n :: r, e => by
  have q : (.type n :: r : List Value) = bmV := beq_iff_eq.mp (show ((.type n :: r : List Value) == bmV) = true from e)
  rw [q]
  exact ⟨PySem.F.store_ValueError.passes self, by decide, rfl⟩
 | v :: r, e => by
  cases v with
  | ref c =>
   obtain ⟨h1, h2, _⟩ := uM self (l := r) e
   exact ⟨by rw [refuseLoop_ref]; exact h1, by rw [List.contains_cons, h2, Bool.or_true], rfl⟩
  | type n =>
   have q : (.type n :: r : List Value) = bmV := beq_iff_eq.mp (show ((.type n :: r : List Value) == bmV) = true from e)
   rw [q]
   exact ⟨PySem.F.store_ValueError.passes self, by decide, rfl⟩
  | _ => exact absurd (beq_iff_eq.mp e) (by intro z; cases z)
def HW (K : PySem.W.Frag) (C : Addr) : Bool := (PySem.W.clsIn K C).any fun cd => JW cd.mro
section
variable {prog : Program} {w : World} {A : Around} {E : Value -> Shared -> Prop} {s : Shared} {K : PySem.W.Frag} {x C : Addr} {ox : Obj} {name : Str} {v : Value}
theorem UG {vs : Array Value} {Q : Unit -> Shared -> Prop} (X : K.In s.heap) (I : PySem.W.InstAt s.heap x ox C none) (hv : ox.data = .fields vs) (hs : PySem.W.findIn K (.ref C) "__setattr__" = some (some (.builtin "object.__setattr__"))) (hp : HW K C = true) (ht : PySem.W.takerIn K C name = some none) (hh : PySem.W.hasDictIn K C = true)
 (h : ∀ h', h'.get? x = some { ox with dict := some s.heap.objs.size } -> h'.Ns1 s.heap.objs.size (fun y => if y = name then some v else none) -> (∀ b o, b ≠ x -> s.heap.get? b = some o -> h'.get? b = some o) -> Q () { s with heap := h', toks := s.toks + 2 }) :
 wpAny (model prog w) A (setAttr (.ref x) name v) Q E s := by
 refine PySem.W.set_plain X I hs ?_
 have SF := PySem.F.store_object
 obtain ⟨cd, hc, ho⟩ := PySem.W.any_some hp
 obtain ⟨o1, o2, o3⟩ := uM (.ref x) ho
 have sub : PySem.W.Looks (model prog w) s.heap (isInstance (.ref x) (.type "object")) true := I.type.andThen (PySem.W.looks_mroIn X (by unfold PySem.W.mroIn; rw [hc, Option.bind_some, if_neg (by rw [o3]; decide), o2]))
 refine codeAny_call_builtin SF.slot.plain SF.entry (@PySem.W.check_slot (model prog w) _ _ { s with toks := s.toks + 1 } "object.__setattr__" "object" "__setattr__" (.ref x) [.str name s.toks, v] [] _ SF.kind SF.split sub (SF.args (.ref x) (.str name s.toks) v) ?_)
 obtain ⟨attr, ha, hr⟩ := Option.bind_eq_some_iff.mp ht
 have hm : PySem.W.Looks (model prog w) s.heap (mroOf (.ref C)) cd.mro := (PySem.W.looks_clsIn X hc).andThen .now
 have L3 : PySem.W.Looks (model prog w) s.heap (storeTaker? attr) none := by
  cases attr with
  | none => cases hr; exact .now
  | some a =>
   obtain ⟨b, hb, e⟩ := Option.map_eq_some_iff.mp hr
   refine (PySem.W.looks_takesIn X hb).andThen ?_
   cases b
   · exact .now
   · cases e
 rw [PySem.W.osa_eq, refuse_eq]
 have k0 : ∀ b o, s.heap.get? b = some o -> ({ s with toks := s.toks + 1 } : Shared).heap.get? b = some o := fun _ _ z => z
 refine wpAny_bind (wpAny_bind (PySem.W.Looks.here (s := { s with toks := s.toks + 1 }) I.type (wpAny_bind (PySem.W.Looks.here (s := { s with toks := s.toks + 1 }) hm ?_))))
 rw [o1]
 refine wpAny_pure (wpAny_bind (PySem.W.Looks.here (s := { s with toks := s.toks + 1 }) I.type (wpAny_bind (PySem.W.Looks.here (s := { s with toks := s.toks + 1 }) (PySem.W.looks_findIn X ha) (wpAny_bind (PySem.W.Looks.here (s := { s with toks := s.toks + 1 }) L3 ?_))))))
 obtain ⟨cd', hc', hd'⟩ := PySem.W.any_some hh
 have dn : ox.dict = none := by
  have := I.dict
  cases q : ox.dict with
  | none => rfl
  | some d => rw [q] at this; exact this.elim
 have hx := I.at_
 have hcl := I.cls
 obtain ⟨oc, odi, oda, osl⟩ := ox
 dsimp only at hcl dn hv
 subst hcl dn hv
 refine wpAny_bind (wpAny_pure (wpAny_bind (wpAny_bind (wpAny_loadPart hx (wpAny_bind (PySem.W.Looks.here (s := { s with toks := s.toks + 1 }) (PySem.W.looks_clsIn X hc') ?_))))))
 rw [hd']
 rw [if_neg (by decide)]
 show wpAny _ _ (if (!true || !typeHasDict (.ref C)) = true then pure none else _) _ _ _
 rw [if_neg (by simp [typeHasDict])]
 have x1 : (s.heap.push { cls := .type "dict", data := .dict #[] }).get? x = some ⟨.ref C, none, .fields vs, osl⟩ := Heap.get?_push_of_some _ hx
 have xs : x ≠ s.heap.objs.size := Nat.ne_of_lt (Heap.lt_size hx)
 refine wpAny_bind (wpAny_alloc' ?_)
 refine wpAny_bind (wpAny_update' x1 ?_)
 refine wpAny_pure ?_
 generalize hg : (s.heap.push { cls := .type "dict", data := .dict #[] }).update x (fun o => { cls := o.cls, dict := some s.heap.objs.size, data := o.data, slots := o.slots }) = g1
 have gd : g1.get? s.heap.objs.size = some { cls := .type "dict", data := .dict #[] } := by
  rw [<- hg]
  exact (Heap.get?_update_other _ _ xs).trans (Heap.get?_push_size s.heap rfl)
 have gn : g1.Ns s.heap.objs.size (fun _ => none) := ⟨_, #[], _, gd, rfl, fun e he => absurd he (by simp), fun _ => rfl⟩
 show wpAny _ _ (storeInDict s.heap.objs.size (.str name s.toks) name v) _ _ _
 unfold storeInDict newKeyGuard
 refine wpAny_bind (wpAny_pure (wpAny_bind (wpAny_nsSet1 (Heap.Ns1.of_empty gn) fun h' hn' hs' => ?_)))
 obtain ⟨oD, esD, epD, hoD, hdD, hcD⟩ := hn'.count (PySem.Within.cons name v PySem.Within.nil)
 refine wpAny_bind (wpAny_lookBehind hoD (by rw [hdD]; exact pastItsLine_dict (Nat.le_trans hcD (by rw [List.length_cons, List.length_nil, sizeLine_eq]; omega))) ?_)
 refine wpAny_pure ?_
 refine h h' ?_ hn' fun b o hb q => ?_
 · rw [hs'.2 x xs, <- hg]
   exact Heap.get?_update_self _ x1 rfl
 · rw [hs'.2 b (Nat.ne_of_lt (Heap.lt_size q)), <- hg, Heap.get?_update_other _ _ (Ne.symm hb)]
   exact Heap.get?_push_of_some _ q
end
end L2
end
section
set_option Elab.async false
set_option linter.all false
set_option maxRecDepth 100000
set_option maxHeartbeats 4000000
namespace L2
open PySem PySem.Spec PyProof.Rows
def xM (K : PySem.W.Frag) (C : Addr) : Bool := match K.lookup C with
 | some ⟨.type "type", _, .cls cd, sl⟩ => (match cd.mro, sl.toList with
  | .ref C' :: bm, [_, _, _, _, some (.builtin n), _] => C' == C && n == "ValueError.__new__" && !cd.hasDel && PySem.W.tailIn K bmV bm
  | _, _ => false)
 | _ => false
theorem uK {K : PySem.W.Frag} {h : Heap} {C : Addr} (X : K.In h) (q : xM K C = true) :
 ∃ bm N nm qn bs hd sn sub ab col dd k0 k1 k2 k3 k5, h.get? C = some (excClassObj nm qn C N bs bm hd sn sub ab col dd k0 k1 k2 k3 k5 "ValueError.__new__") /\ OwnTail h bmV bm := by
 unfold xM at q
 split at q
 case h_2 => cases q
 case h_1 dd cd sl lk =>
  split at q
  case h_2 => cases q
  case h_1 C' bm k0 k1 k2 k3 n k5 hm hs =>
   simp only [Bool.and_eq_true, beq_iff_eq, Bool.not_eq_true'] at q
   obtain ⟨⟨⟨q1, q2⟩, q3⟩, q4⟩ := q
   subst q1 q2
   cases cd with
   | mk nm bs mro ns qn hd sn sub ab col del =>
    cases hm
    cases q3
    have es : sl = #[k0, k1, k2, k3, some (.builtin "ValueError.__new__"), k5] := by
     cases sl with
     | mk l => exact congrArg Array.mk hs
    cases es
    exact ⟨bm, ns, nm, qn, bs, hd, sn, sub, ab, col, dd, k0, k1, k2, k3, k5, X _ _ lk, PySem.W.tail_of_in X q4⟩
section
variable {prog : Program} {w : World} {A : Around} {E : Value -> Shared -> Prop} {K : PySem.W.Frag} {C f : Addr}
theorem QZ {h : Heap} {g : Array GenState} {d : Drawn} {t : Nat} {os : OsState} {us : List Value} {Q : Fin -> Shared -> Prop} (X : K.In h) (q : xM K C = true) (hi : PySem.W.findIn K (.ref C) "__init__" = some (some (.ref f))) (hf : PySem.W.typeIn K (.ref f) = some (.type "function")) (hl : us.length <= sizeLine)
 (hq : ∀ h' e, Heap.MadeExcOf h h' e (.ref C) us -> wpAny (model prog w) A (call (.ref f) (.ref e :: us)) (fun r s' => r = .none /\ Q (.done (.ret (.ref e))) s') E ⟨h', g, d, t, os⟩) :
 wpAny (model prog w) A (Builtin.«type.__call__» ⟨.ref C :: us, []⟩) Q E ⟨h, g, d, t, os⟩ := by
 obtain ⟨bm, N, nm, qn, bs, hd, sn, sub, ab, col, dd, k0, k1, k2, k3, k5, hC, T⟩ := uK X q
 have F := PySem.F.excBase_ValueError
 repeat (first | (with_reducible refine wpAny_loadPart_at hC ?_) | (with_reducible refine wpAny_madeBy_exc hC ?_) | wp_step)
 refine codeAny_call_builtin_code (Code.quiet_builtin _ F.quiet) (wpAny_check_new_subT F T hC (codeAny_exc_new_subT F T hC ?_ hl))
 show wpAny _ _ _ _ _ _
 have kp : ∀ b o, h.get? b = some o -> ((h.push { cls := .type "tuple", data := .seq us.toArray }).push { cls := .ref C, data := .fields #[.ref h.objs.size, .none, .none, .none, .bool false, .none] }).get? b = some o := fun b o z => Heap.get?_push_of_some _ (Heap.get?_push_of_some _ z)
 have he : ((h.push { cls := .type "tuple", data := .seq us.toArray }).push { cls := .ref C, data := .fields #[.ref h.objs.size, .none, .none, .none, .bool false, .none] }).get? (h.objs.size + 1) = some { cls := .ref C, data := .fields #[.ref h.objs.size, .none, .none, .none, .bool false, .none] } := by
  have := Heap.get?_push_size (h.push { cls := .type "tuple", data := .seq us.toArray }) (o := { cls := .ref C, data := .fields #[.ref h.objs.size, .none, .none, .none, .bool false, .none] }) rfl
  rwa [Heap.size_push] at this
 have ht : ((h.push { cls := .type "tuple", data := .seq us.toArray }).push { cls := .ref C, data := .fields #[.ref h.objs.size, .none, .none, .none, .bool false, .none] }).get? h.objs.size = some { cls := .type "tuple", data := .seq us.toArray } := Heap.get?_push_of_some _ (Heap.get?_push_size h rfl)
 have cC : (Value.ref C :: bm).contains (.ref C) = true := by simp
 have hC1 := kp _ _ hC
 have L1 := PySem.W.looks_findIn (M := model prog w) (X.keeps kp) hi
 have L2 := PySem.W.bind_fn (M := model prog w) (X.keeps kp) (.ref (h.objs.size + 1)) hf
 unfold isInstance
 repeat (first | (with_reducible refine wpAny_loadPart_at he ?_) | (with_reducible refine wpAny_isSubtype_exc hC1 ?_; rw [cC]) | wp_step)
 show wpAny _ _ (typeLookup (.ref C) _) _ _ _
 refine L1.at ?_
 refine wpAny_holding (wpAny_bind (L2.at ?_))
 refine wpAny_bind (wpAny_mono (hq _ (h.objs.size + 1) ⟨kp, Heap.get?_none_of_le (Nat.le_succ _), h.objs.size, he, Heap.get?_none_of_le (Nat.le_refl _), ht⟩) (fun r s' z => ?_) fun _ _ z => z)
 obtain ⟨rfl, z⟩ := z
 wp_walk
 exact z
theorem GZ {s : Shared} {us : List Value} {Q : Value -> Shared -> Prop} (X : K.In s.heap) (q : xM K C = true) (hi : PySem.W.findIn K (.ref C) "__init__" = some (some (.ref f))) (hf : PySem.W.typeIn K (.ref f) = some (.type "function")) (hl : us.length <= sizeLine)
 (hq : ∀ h' e, Heap.MadeExcOf s.heap h' e (.ref C) us -> wpAny (model prog w) (A.under (.builtin "type.__call__" ⟨.ref C :: us, []⟩)) (call (.ref f) (.ref e :: us)) (fun r s' => r = .none /\ Q (.ref e) s') E { s with heap := h' }) :
 wpAny (model prog w) A (call (.ref C) us) Q E s := by
 obtain ⟨bm, N, nm, qn, bs, hd, sn, sub, ab, col, dd, k0, k1, k2, k3, k5, hC, T⟩ := uK X q
 obtain ⟨h, g, d, t, os⟩ := s
 have f1 := tc_lookup
 have f2 := tc_bind (.ref C)
 have hT : (⟨h, g, d, t, os⟩ : Shared).TypeIs (.ref C) "type" := ⟨_, hC, rfl⟩
 refine wpAny_call (codeAny_of_tree ?_)
 show wpAny _ _ (callAny (.ref C) ⟨us, []⟩) _ _ _
 repeat (any_goals (first | assumption | (with_reducible refine wpAny_loadPart_at hC ?_) | wp_step))
 refine ⟨rfl, ?_⟩
 refine codeAny_call_builtin_at (Code.quiet_builtin _ (by decide +kernel)) entry_typeCall (wpAny_check_type_call_sub hC (QZ (f := f) X q hi hf hl fun h' e mk => ?_))
 exact hq h' e mk
end
end L2
end
section
set_option Elab.async false
set_option linter.all false
set_option maxRecDepth 100000
set_option maxHeartbeats 4000000
namespace L2
open PySem PySem.Spec PyProof.Rows
def unt (H : Hp) (e : Addr) : Hp := fun b => if b = e then none else H b
theorem kB {H : Hp} {a b : Addr} (h : b ≠ a) : unt H a b = H b := by unfold unt; rw [if_neg h]
theorem tD {H : Hp} {a : Addr} : unt H a a = none := by unfold unt; rw [if_pos rfl]
section
variable {X : Cx} {pins : List (Addr × Obj)} {σ : St} {H : Hp} {s : Shared}
theorem Inv.untrack {e : Addr} {φ : Heap -> Prop} (I : Inv X pins σ H s) (he : H e = some (.ext φ)) : Inv X pins σ (unt H e) s := by
 have up : ∀ b, H b = none -> unt H e b = none := fun b q => by
  by_cases z : b = e
  · rw [z, tD]
  · rw [kB z]; exact q
 have ne : ∀ b u, H b = some u -> (∀ ψ, u ≠ .ext ψ) -> b ≠ e := fun b u q n z => by
  rw [z, he] at q
  cases q
  exact n φ rfl
 refine ⟨I.ok, I.os, I.bare, ⟨I.base.keep, I.base.slot, fun b o q n hx => up b (I.base.free b o q n hx), I.base.there, fun b xs q => ?_, fun b o u q => ?_, fun b ps q => ?_⟩, I.loc, I.cell, up _ I.free, fun x c q => up _ (I.freeC x c q), fun p h => ?_, fun b u q => ?_, I.len⟩
 · have := I.base.tups b xs q
   rw [kB (ne _ _ this fun _ z => by cases z)]; exact this
 · have := I.base.frzs b o u q
   rw [kB (ne _ _ this fun _ z => by cases z)]; exact this
 · obtain ⟨more, this⟩ := I.base.tbls b ps q
   exact ⟨more, by rw [kB (ne _ _ this fun _ z => by cases z)]; exact this⟩
 · obtain ⟨q1, q2, q3⟩ := I.pin p h
   exact ⟨q1, up _ q2, q3⟩
 · have hb : b ≠ e := fun z => by rw [z, tD] at q; cases q
   rw [kB hb] at q
   exact (I.hok b u q).stay (fun _ _ _ z => z) (fun c z => by rw [kB (ne _ _ z fun _ w => by cases w)]; exact z) fun c xs z => by rw [kB (ne _ _ z fun _ w => by cases w)]; exact z
structure pJ (K : PySem.W.Frag) (C : Addr) (f : Str) : Prop where
 sa : PySem.W.findIn K (.ref C) "__setattr__" = some (some (.builtin "object.__setattr__"))
 ov : HW K C = true
 tk : PySem.W.takerIn K C f = some none
 hd : PySem.W.hasDictIn K C = true
 na : PySem.W.findIn K (.ref C) f = some none
theorem QL {A : Around} {E : Value -> Shared -> Prop} {a C : Addr} {f : Str} {y : V} {u : Value} {Q : Unit -> Shared -> Prop} (I : Inv X pins σ H s) (e : H a = some (.ext (jL a (.ref C) none true))) (c : pJ X.K C f) (ry : RelV y u)
 (h : ∀ d s', H d = none -> d ≠ a -> Inv X pins σ (upd (upd H d (.xd [(f, y)])) a (.ext (jL a (.ref C) (some d) true))) s' -> Q () s') : wpAny (model X.prog X.w) A (setAttr (.ref a) f u) Q E s := by
 obtain ⟨⟨o, vs, h1, h2, h3, h4, h5⟩, _⟩ := I.hok a _ e
 obtain ⟨z1, z2⟩ := h5 rfl
 have no : PySem.W.notCls o = true := by
  obtain ⟨_, _, dt, _⟩ := o
  cases h4
  rfl
 have hn : H s.heap.objs.size = none := I.hok.fresh (Nat.le_refl _)
 have hne : s.heap.objs.size ≠ a := Nat.ne_of_gt (Heap.lt_size h1)
 refine UG I.kIn ⟨h1, h2, no, by rw [h3]; exact True.intro⟩ h4 c.sa c.ov c.tk c.hd fun h' q1 q2 q3 => h s.heap.objs.size _ hn hne ?_
 have hda : ∀ b w, H b = some w -> b ≠ s.heap.objs.size := fun b w z => aN z hn
 refine I.un (t' := s.toks + 2) ⟨fun b ob z n _ _ => ?_, fun b ob z n _ _ => ?_, fun b ob z n _ => ?_, fun b ob z _ => ?_, fun b xs z => ?_, fun b ob w z => ?_, fun b ps z => ?_⟩ fun b w z => ?_
 · exact q3 b ob (fun w => by rw [w, e] at n; cases n) z
 · exact ⟨ob.slots, q3 b ob (fun w => by rw [w, e] at n; cases n) z⟩
 · rw [aI (fun w => by rw [w, e] at n; cases n), aI (Nat.ne_of_lt (Heap.lt_size z))]
   exact n
 · by_cases w : b = a
   · rw [w]; exact ⟨_, q1⟩
   · exact ⟨ob, q3 b ob w z⟩
 · rw [aI (qL z e (by intro w; cases w)), aI (hda _ _ z)]; exact z
 · rw [aI (qL z e (by intro w; cases w)), aI (hda _ _ z)]; exact z
 · exact ⟨#[], by rw [aI (qL z e (by intro w; cases w)), aI (hda _ _ z), z]; simp⟩
 · by_cases hb : b = a
   · subst hb
     rw [aT] at z
     cases z
     exact ⟨⟨_, vs, q1, h2, rfl, h4, h5⟩, ⟨_, q1⟩, fun g1 g2 ⟨o', ws, k1, k2⟩ kk => ⟨o', ws, kk o' k1, k2⟩⟩
   · rw [aI hb] at z
     by_cases hd : b = s.heap.objs.size
     · subst hd
       rw [aT] at z
       cases z
       refine ⟨_, q2, fun g => ?_⟩
       show RelO (List.lookup g [(f, y)]) (if g = f then some u else none)
       by_cases gf : g = f
       · rw [if_pos gf, gf, List.lookup_cons, beq_self_eq_true]; exact ry
       · rw [if_neg gf, List.lookup_cons, beq_eq_false_iff_ne.mpr gf]; exact True.intro
     · rw [aI hd] at z
       refine (I.hok b w z).stay (fun c v hc r => q3 c v ?_ r) (fun c r => ?_) fun c xs r => ?_
       · rcases hc with rfl | hc
         · exact hb
         · exact qL hc e (by intro w; cases w)
       · rw [aI (qL r e (by intro w; cases w)), aI (hda _ _ r)]; exact r
       · rw [aI (qL r e (by intro w; cases w)), aI (hda _ _ r)]; exact r
theorem PK {A : Around} {E : Value -> Shared -> Prop} {a C d : Addr} {f : Str} {fr b : Bool} {us : List (Str × V)} {v : V} {Q : Value -> Shared -> Prop} (I : Inv X pins σ H s) (e : H a = some (.ext (jL a (.ref C) (some d) fr))) (hd : H d = some (.xd us)) (c : pH X.K C) (cs : pJ X.K C f) (l : us.lookup f = some v)
 (h : ∀ u s', Inv X pins σ H s' -> RelV v u -> Q u s') : wpAny (model X.prog X.w) A (getAttr (.ref a) f b) Q E s := by
 obtain ⟨⟨o, vs, h1, h2, h3, h4, h5⟩, _⟩ := I.hok a _ e
 obtain ⟨mA, n1, r⟩ := (show ObjOk X.prog X.w H s.heap d (.xd us) from I.hok d _ hd)
 obtain ⟨u, hu, ru⟩ := RelO.some_of (v := v) (o := mA f) (by rw [<- l]; exact r f)
 obtain ⟨od, ho, hl⟩ := wH n1
 have no : PySem.W.notCls o = true := by
  obtain ⟨_, _, dt, _⟩ := o
  cases h4
  rfl
 have J : PySem.W.InstAt s.heap a o C (some od) := ⟨h1, h2, no, by rw [h3]; exact ho⟩
 exact QY I.kIn J c (PySem.W.findObj_own cs.hd cs.na rfl (by rw [hl, hu])) (vA ru) (h u _ (I.tok _) ru)
theorem Inv.newX {C e : Addr} {us : List Value} {h' : Heap} (I : Inv X pins σ H s) (mk : Heap.MadeExcOf s.heap h' e (.ref C) us) : H e = none /\ Inv X pins σ (upd H e (.ext (jL e (.ref C) none true))) { s with heap := h' } := by
 have hn : H e = none := by
  cases z : H e with
  | none => rfl
  | some u =>
   obtain ⟨o, z'⟩ := (I.hok e u z).there
   rw [mk.new] at z'
   cases z'
 obtain ⟨t, he, _, _⟩ := mk.there
 refine ⟨hn, I.un (t' := s.toks) ⟨fun b o q _ _ _ => mk.keeps b o q, fun b o q _ _ _ => ⟨o.slots, mk.keeps b o q⟩, fun b o q n _ => ?_, fun b o q _ => ⟨o, mk.keeps b o q⟩, fun b xs q => ?_, fun b o u q => ?_, fun b ps q => ?_⟩ fun b u q => ?_⟩
 · rw [aI (fun z => by rw [z, mk.new] at q; cases q)]; exact n
 · rw [aI (aN q hn)]; exact q
 · rw [aI (aN q hn)]; exact q
 · exact ⟨#[], by rw [aI (aN q hn), q]; simp⟩
 · by_cases hb : b = e
   · subst hb
     rw [aT] at q
     cases q
     exact ⟨⟨_, _, he, rfl, rfl, rfl, fun _ => ⟨by show 1 < 6; decide, rfl⟩⟩, ⟨_, he⟩, fun g1 g2 ⟨o', ws, k1, k2⟩ kk => ⟨o', ws, kk o' k1, k2⟩⟩
   · rw [aI hb] at q
     exact (I.hok b u q).stay (fun c v _ r => mk.keeps c v r) (fun c r => by rw [aI (aN r hn)]; exact r) fun c xs r => by rw [aI (aN r hn)]; exact r
end
section
variable {X : Cx} {C f : Addr} {x : Str} {p pos : Pos} {k : Nat} {fd : FuncData} {ps : List Str} {sp : Sp} {e : Expr} {es : List Expr} {t : TA}
structure MkX (K : PySem.W.Frag) (C f : Addr) : Prop where
 ex : xM K C = true
 init : PySem.W.findIn K (.ref C) "__init__" = some (some (.ref f))
 fn : PySem.W.isFn K (.ref f) = true
 kp : PySem.W.keepIn K (.ref C) = true
def DC (C : Addr) (sp : Sp) (t : TA) : TE := fun σ H Q => t σ H fun vs H1 => vs.length <= sizeLine /\ ∀ a, H1 a = none -> sp (.ref a :: vs) (upd H1 a (.ext (jL a (.ref C) none true))) (fun v H2 => v = .non /\ Q (.ref a) H2) E0
theorem GD {pins : List (Addr × Obj)} {σ : St} {H : Hp} {s : Shared} {Q : VK} {us : List Value} {vs : List V} (M : MkX X.K C f) (F : FnOk X.prog X.w X.K X.mg X.base CX0 k f fd ps sp) (hr : Room (k + 1) X.A) (hb : Binds X.K fd ps []) (I : Inv X pins σ H s) (r : Vals vs us)
 (hl : vs.length <= sizeLine) (h : ∀ a, H a = none -> sp (.ref a :: vs) (upd H a (.ext (jL a (.ref C) none true))) (fun v H2 => v = .non /\ Q (.ref a) H2) E0) :
 wpAny (model X.prog X.w) X.A (call (.ref C) us) (fun v s' => ∃ a H', v = .ref a /\ Inv X pins σ H' s' /\ (X.ex = [] -> X.s₀.heap.get? a = none) /\ Q (.ref a) H') X.xe s := by
 refine GZ I.kIn M.ex M.init (beq_iff_eq.mp M.fn) (by rw [<- r.length]; exact hl) fun h' a mk => ?_
 obtain ⟨h1, I2⟩ := I.newX mk
 have hq := h a h1
 have r2 : Vals (V.ref a :: vs) (Value.ref a :: us) := .cons rfl r
 have hlen : (Value.ref a :: us).length = ps.length := by
  have e := r2.length
  rw [F.len _ _ _ _ hq] at e
  exact e.symm
 have b := hb { s with heap := h' } (Value.ref a :: us) I2.kIn (by rw [List.append_nil]; exact hlen)
 rw [List.append_nil] at b
 refine wpAny_call (codeAny_mono (F.run _ X.stack _ _ ⟨Value.ref a :: us, []⟩ (Value.ref a :: us) _ _ E0 (hr.make C us []) (I2.env0.make C us []) b r2 hq) fun rr s' hq' => ?_)
 cases rr with
 | error e => exact False.elim hq'
 | ok fl =>
  cases fl with
  | ret u =>
   obtain ⟨v, H', I3, rv, ev, q3⟩ := I2.after hq'
   subst ev
   have nw : X.ex = [] -> X.s₀.heap.get? a = none := fun hx => by
    cases z : X.s₀.heap.get? a with
    | none => rfl
    | some o =>
     obtain ⟨o1, z1⟩ := I.base.there a o z (by rw [hx]; simp)
     rw [mk.new] at z1
     cases z1
   exact ⟨rv, a, H', rfl, I3, nw, q3⟩
  | next => exact False.elim hq'
  | brk => exact False.elim hq'
  | cont => exact False.elim hq'
theorem FS (M : MkX X.K C f) (F : FnOk X.prog X.w X.K X.mg X.base CX0 k f fd ps sp) (hr : Room (k + 1) X.A) (hg : Gl X x) (hm : X.mg x = some (.ref C)) (hb : Binds X.K fd ps [])
 (ha : PA X (e :: es) t) (hdb : (x == ("__debug__" : Str)) = false) (he : starEach (e :: es) X.env = (false, eval e X.env) :: starEach es X.env) (hpl : (backTo pos (starEach es X.env)).any (·.1) = false)
 {pins : List (Addr × Obj)} {s : Shared} {σ : St} {H : Hp} {Q : VK} (I : Inv X pins σ H s) (h : DC C sp t σ H Q) :
 wpAny (model X.prog X.w) X.A (eval (.Call (.Name x p) (e :: es) [] pos) X.env) (fun v s' => ∃ a H', v = .ref a /\ Inv X pins σ H' s' /\ (X.ex = [] -> X.s₀.heap.get? a = none) /\ Q (.ref a) H') X.xe s := by
 refine wpAny_Call_Name_kw (kA I hg hm ?_ hdb)
 exact PySem.W.callWith_K (h₀ := X.base) I.ok.mod.kin M.kp (thn (ha pos pins s σ H _ I h) fun us s1 ⟨vs, H1, I1, r, hl, q⟩ => ⟨I1.kIn, GD M F hr hb I1 r hl q⟩) he hpl
end
end L2
end
section
set_option Elab.async false
set_option linter.all false
set_option maxRecDepth 100000
set_option maxHeartbeats 4000000
namespace L2
open PySem PySem.Spec PyProof.Rows
theorem QB {prog : Program} {w : World} {A : Around} {E : Value -> Shared -> Prop} {s : Shared} {env : Env} {e : Expr} {pos : Pos} {K : PySem.W.Frag} {C : Addr} {Q : Flow -> Shared -> Prop} (hh : A.handled = none) (q : xM K C = true) (be : PySem.W.subIn K (.ref C) (.type "BaseException") = some true)
 (h : wpAny (model prog w) A (eval e env) (fun v s1 => ∃ a oe vs, v = .ref a /\ K.In s1.heap /\ s1.heap.get? a = some oe /\ oe.cls = .ref C /\ oe.data = .fields vs /\ vs[1]? = some .none /\ E (.ref a) s1) E s) :
 wpAny (model prog w) A (exec (.Raise (some e) none pos) env) Q E s := by
 show wpAny (model prog w) A (do standAt pos; raiseStmt env (some (do let v <- eval e env; standAt pos; pure v)) none) Q E s
 refine wpAny_bind (wpAny_standAt ?_)
 unfold raiseStmt
 dsimp only
 refine wpAny_bind (wpAny_bind (wpAny_mono h (fun v s1 z => wpAny_bind (wpAny_standAt (wpAny_pure ?_))) fun _ _ z => z))
 obtain ⟨a, oe, vs, rfl, X, he, hc, hv, h1, hE⟩ := z
 have LT : PySem.W.Looks (model prog w) s1.heap (typeOf (.ref a)) (.ref C) := hc ▸ (PySem.W.Looks.ld he).andThen .now
 have LS := PySem.W.looks_subIn (M := model prog w) X be
 obtain ⟨bm, N, nm, qn, bs, hd, sn, sub, ab, col, dd, k0, k1, k2, k3, k5, hC, _⟩ := uK X q
 have LC : PySem.W.Looks (model prog w) s1.heap (typeOf (.ref C)) (.type "type") := (PySem.W.Looks.ld hC).andThen .now
 have nt : ∀ {Q' : Bool -> Shared -> Prop}, Q' false s1 -> wpAny (model prog w) A (isType (.ref a)) Q' E s1 := fun {Q'} z => by
  simp only [isType, loadHead]
  refine wpAny_bind (wpAny_loadPart he ?_)
  rw [hv]
  exact wpAny_pure z
 refine wpAny_bind (wpAny_pure ?_)
 dsimp only
 refine wpAny_bind (wpAny_holding ?_)
 unfold excFromValue isExcClass
 refine wpAny_bind (wpAny_bind (nt ?_))
 simp only [Bool.false_eq_true, if_false]
 refine wpAny_pure ?_
 simp only [Bool.false_eq_true, if_false]
 unfold isInstance
 refine wpAny_bind (wpAny_bind (LT.here (LS.here ?_)))
 simp only [if_true]
 refine wpAny_pure ?_
 refine wpAny_bind (nt ?_)
 simp only [Bool.false_eq_true, if_false]
 unfold raisedInstance
 refine wpAny_bind (wpAny_bind (LT.here (wpAny_bind (LC.here ?_))))
 rw [if_pos (by decide)]
 refine wpAny_pure ?_
 unfold setFlight
 refine wpAny_bind (wpAny_bind (wpAny_field he hv h1 ?_))
 rw [if_neg (by decide)]
 exact wpAny_pure (wpAny_raiseNew_none hh hE)
section
variable {X : Cx} {C f : Addr} {x : Str} {p cpos pos : Pos} {k : Nat} {fd : FuncData} {ps : List Str} {sp : Sp} {e : Expr} {es : List Expr} {t : TA}
def xK (EE : St -> XK) (C : Addr) (sp : Sp) (t : TA) : TS := fun _ σ H => DC C sp t σ H fun v H1 => ∃ a dx, v = .ref a /\ H1 a = some (.ext (jL a (.ref C) dx true)) /\ EE σ (.ref C) dx (unt H1 a)
theorem GN {EE : St -> XK} (ok : XOk X EE) (hc : X.calm = true) (M : MkX X.K C f) (be : PySem.W.subIn X.K (.ref C) (.type "BaseException") = some true) (F : FnOk X.prog X.w X.K X.mg X.base CX0 k f fd ps sp) (hr : Room (k + 1) X.A) (hg : Gl X x) (hm : X.mg x = some (.ref C)) (hb : Binds X.K fd ps [])
 (ha : PA X (e :: es) t) (hdb : (x == ("__debug__" : Str)) = false) (he : starEach (e :: es) X.env = (false, eval e X.env) :: starEach es X.env) (hpl : (backTo cpos (starEach es X.env)).any (·.1) = false) :
 PS X (.Raise (some (.Call (.Name x p) (e :: es) [] cpos)) none pos) (xK EE C sp t) := by
 intro pins s σ H D I h
 refine QB (I.ok.hd hc) M.ex be ?_
 refine wpAny_mono (FS (X := X) (p := p) (pos := cpos) M F hr hg hm hb ha hdb he hpl I h) (fun v s1 ⟨a', H1, ev, I1, new, a, dx, ex, ea, q⟩ => ?_) fun _ _ z => z
 obtain rfl : a' = a := V.ref.inj ex
 subst ev
 obtain ⟨⟨o, vs, h1, h2, h3, h4, h5⟩, _⟩ := I1.hok a' _ ea
 obtain ⟨z1, z2⟩ := h5 rfl
 have I2 : Inv X [] σ (unt H1 a') s1 := (I1.untrack ea).pins_of fun p hp => absurd hp (by simp)
 refine ⟨a', o, vs, rfl, I1.kIn, h1, h2, h4, z2, ok.pass _ _ (NY ok.bd I2 h1 tD (new ok.bd.ex) (fun p hp z => ?_) h4 z1 z2 (by rw [h2, h3]; exact q))⟩
 · have := (I1.pin p (List.mem_append_left _ hp)).2.1
   rw [z, ea] at this
   cases this
end
end L2
end
section
set_option Elab.async false
set_option linter.all false
set_option maxRecDepth 100000
set_option maxHeartbeats 4000000
namespace L2
open PySem PySem.Spec PyProof.Rows
section
variable {X : Cx} {o value e : Expr} {ta tv : TE} {f : Str} {pos pos' : Pos}
def NX (K : PySem.W.Frag) (ta tv : TE) (f : Str) : TS := fun D σ H => tv σ H fun y H1 => ta σ H1 fun x H2 => ∃ a C, x = .ref a /\ H2 a = some (.ext (jL a (.ref C) none true)) /\ pJ K C f /\ ∀ d, H2 d = none -> d ≠ a -> D.nx σ (upd (upd H2 d (.xd [(f, y)])) a (.ext (jL a (.ref C) (some d) true)))
theorem RH (ha : PE X o ta) (hv : PE X value tv) (hs : swapsWith value (some (.Attribute o f pos')) pos.line X.env = pure false) : PS X (.Assign [.Attribute o f pos'] value pos) (NX X.K ta tv f) := by
 intro pins s σ H D I h
 refine plainObj_wpAny_Assign_Attribute (thn (hv pins s σ H _ I h) fun u s1 ⟨y, H1, I1, ry, q⟩ => thn (ha pins s1 σ H1 _ I1 q) fun ov s2 ⟨x, H2, I2, rx, a, C, ex, ea, c, q2⟩ => ?_) hs
 subst ex
 obtain rfl : ov = Value.ref a := rx
 exact QL I2 ea c ry fun d s3 hd hne I3 => ⟨σ, _, I3, q2 d hd hne⟩
def VX (K : PySem.W.Frag) (ta : TE) (f : Str) : TE := fun σ H Q => ta σ H fun x H1 => ∃ a C d fr us v, x = .ref a /\ H1 a = some (.ext (jL a (.ref C) (some d) fr)) /\ H1 d = some (.xd us) /\ pH K C /\ pJ K C f /\ us.lookup f = some v /\ Q v H1
theorem PH (he : PE X e ta) (hb : attributeBase e f X.env (eval e X.env) = eval e X.env) : PE X (.Attribute e f pos) (VX X.K ta f) := by
 intro pins s σ H Q I h
 refine EY hb (thn (he pins s σ H _ I h) fun u s1 ⟨x, H1, I1, rx, a, C, d, fr, us, v, ex, ea, hd, c, n, l, q⟩ => ?_)
 subst ex
 obtain rfl : u = Value.ref a := rx
 exact PK I1 ea hd c n l fun u' s2 I2 ru => ⟨v, H1, I2, ru, q⟩
end
def wV (nm : Str) (h : FN) (fa : AF) : EF := fun γ M => (fa γ M).bind fun r => if r.1.length <= sizeLine then (h (.c r.2.length :: r.1) (r.2 ++ [.exc true nm []])).bind fun q => if nE q.1 = true then some (.c r.2.length, q.2) else none else none
def excOf (M : Sto) : CD -> Option (Nat × Bool × Str × List (Str × CD))
 | .c i => match M[i]? with
  | some (.exc fr nm fs) => some (i, fr, nm, fs)
  | _ => none
 | _ => none
theorem sC {M : Sto} {x : CD} {i : Nat} {fr : Bool} {nm : Str} {fs : List (Str × CD)} (h : excOf M x = some (i, fr, nm, fs)) : x = .c i /\ M[i]? = some (.exc fr nm fs) := by
 unfold excOf at h
 split at h
 · rename_i j
   split at h
   · rename_i a b c e
     cases h
     exact ⟨rfl, e⟩
   · cases h
 · cases h
def yC (nm f : Str) (eo ev : EF) : SF := fun γ M => (ev γ M).bind fun v => (eo γ v.2).bind fun o => (excOf o.2 o.1).bind fun p => if p.2.1 = true /\ p.2.2.1 = nm /\ p.2.2.2.isEmpty = true then some (.nx γ, o.2.set p.1 (.exc true nm [(f, v.1)])) else none
def EG (nms : List Str) (f : Str) (e : EF) : EF := fun γ M => (e γ M).bind fun r => (excOf r.2 r.1).bind fun p => if p.2.2.1 ∈ nms then (p.2.2.2.lookup f).bind fun v => some (v, r.2) else none
def mP (nm : Str) (h : FN) (fa : AF) : SFX := fun γ M => (wV nm h fa γ M).bind fun r => (excOf r.2 r.1).bind fun p => if p.2.1 = true /\ p.2.2.1 = nm then some (.xc γ ⟨nm, p.2.2.2⟩, r.2.set p.1 .dead) else none
section
variable {K : PySem.W.Frag} {EE : St -> XK} {ta tv : TE} {tA : TA}
theorem JG {nm : Str} {h : FN} {fa : AF} (b : SA K tA fa) : SE K (DC (aP K nm) (spM K h) tA) (wV nm h fa) := by
 intro γ M x M' hh W H σ Q G R k
 obtain ⟨⟨ys, M1⟩, h1, hh⟩ := aH hh
 have hl : ys.length <= sizeLine := by
  by_cases z : ys.length <= sizeLine
  · exact z
  · rw [if_neg z] at hh; cases hh
 rw [if_pos hl] at hh
 obtain ⟨⟨z, M2⟩, h2, hh⟩ := aH hh
 have hz : nE z = true := by
  cases q : nE z with
  | true => rfl
  | false => rw [q] at hh; cases hh
 rw [if_pos hz] at hh
 cases hh
 have hz' := zL hz
 subst hz'
 refine b _ _ _ _ h1 W H σ _ G R fun vs W1 H1 e1 G1 r1 => ⟨by rw [<- Paired.len r1]; exact hl, fun a ha => ?_⟩
 have Gb := G1.new ha (c := .exc true nm []) (o := .ext (jL a (.ref (aP K nm)) none true)) ⟨none, rfl, rfl⟩
 have e2 := W1.ext_more a
 refine ⟨.c M1.length :: ys, M1 ++ [.exc true nm []], W1.more a, .d .none, M2, Gb, .cons G1.newV (RepVs.up r1 e2), h2, fun v W3 H3 e3 G3 r3 => ⟨r3, ?_⟩⟩
 exact k _ W3 H3 ((e1.trans e2).trans e3) G3 (G1.newV.up e3)
theorem TN {nm f : Str} {eo ev : EF} (c : pJ K (aP K nm) f) (a : SE K ta eo) (b : SE K tv ev) : SS K (NX K ta tv f) (yC nm f eo ev) := by
 intro γ M o M' hh W H σ D G R k
 obtain ⟨⟨y, M1⟩, h1, hh⟩ := aH hh
 obtain ⟨⟨z, M2⟩, h2, hh⟩ := aH hh
 obtain ⟨⟨i, fr, nm', fs⟩, h3, hh⟩ := aH hh
 by_cases hc : fr = true /\ nm' = nm /\ fs.isEmpty = true
 · have hh : (if fr = true /\ nm' = nm /\ fs.isEmpty = true then some (Out.nx γ, M2.set i (.exc true nm [(f, y)])) else none) = some (o, M') := hh
   rw [if_pos hc] at hh
   cases hh
   obtain ⟨rfl, rfl, q⟩ := hc
   have q : fs = [] := by cases fs with | nil => rfl | cons _ _ => cases q
   subst q
   refine b _ _ _ _ h1 W H σ _ G R fun v W1 H1 e1 G1 r1 => ?_
   refine a _ _ _ _ h2 W1 H1 σ _ G1 (R.up e1) fun u W2 H2 e2 G2 r2 => ?_
   obtain ⟨rfl, hM⟩ := sC h3
   obtain ⟨dx, hH, hx⟩ := G2.excAt hM
   cases dx with
   | some d =>
    exact absurd rfl hx.1
   | none =>
    refine ⟨W2.α i, _, r2.2, hH, c, fun d hd hne => ?_⟩
    obtain ⟨e3, G3⟩ := G2.lay (o := .xd [(f, v)]) hd
    have e23 := (e1.trans e2).trans e3
    refine k _ _ e23 (G3.set hM (by intro q; cases q) (c' := .exc true nm' [(f, y)]) (o' := .ext (jL (W2.α i) (.ref (aP K nm')) (some d) true)) ⟨some d, rfl, by simp, [(f, v)], aT, .cons ⟨rfl, (r1.up e2).up e3⟩ .nil⟩) σ (R.up e23)
 · have hh : (if fr = true /\ nm' = nm /\ fs.isEmpty = true then some (Out.nx γ, M2.set i (.exc true nm [(f, y)])) else none) = some (o, M') := hh
   rw [if_neg hc] at hh; cases hh
theorem RF {nms : List Str} {f : Str} {e : EF} (c : ∀ nm ∈ nms, pH K (aP K nm) /\ pJ K (aP K nm) f) (a : SE K ta e) : SE K (VX K ta f) (EG nms f e) := by
 intro γ M x M' hh W H σ Q G R k
 obtain ⟨⟨y, M1⟩, h1, hh⟩ := aH hh
 obtain ⟨⟨i, fr, nm, fs⟩, h2, hh⟩ := aH hh
 by_cases hn : nm ∈ nms
 · have hh : (if nm ∈ nms then (fs.lookup f).bind fun v => some (v, M1) else none) = some (x, M') := hh
   rw [if_pos hn] at hh
   obtain ⟨v, h3, hh⟩ := aH hh
   cases hh
   refine a _ _ _ _ h1 W H σ _ G R fun u W1 H1 e1 G1 r1 => ?_
   obtain ⟨rfl, hM⟩ := sC h2
   obtain ⟨dx, hH, hx⟩ := G1.excAt hM
   cases dx with
   | none => rw [show fs = [] from hx] at h3; cases h3
   | some d =>
    obtain ⟨_, us, w1, w2⟩ := hx
    obtain ⟨w, hw, rw'⟩ := mK w2 h3
    exact ⟨_, _, d, fr, us, w, r1.2, hH, G1.fh _ _ w1, (c nm hn).1, (c nm hn).2, hw, k w W1 H1 e1 G1 rw'⟩
 · have hh : (if nm ∈ nms then (fs.lookup f).bind fun v => some (v, M1) else none) = some (x, M') := hh
   rw [if_neg hn] at hh; cases hh
theorem Good.kill {W : Wd} {M : Sto} {H : Hp} (g : Good K W M H) {i : Nat} {c : Cell} (hi : M[i]? = some c) (hc : c ≠ .dead) : Good K W (M.set i .dead) (unt H (W.α i)) := by
 obtain ⟨h1, o, h2, h3⟩ := g.cs i c hi hc
 have lt : i < M.length := (List.getElem?_eq_some_iff.mp hi).1
 have at_ : ∀ j d, (M.set i .dead)[j]? = some d -> d ≠ .dead -> j ≠ i /\ M[j]? = some d := fun j d h hd => by
  by_cases q : i = j
  · subst q; rw [List.getElem?_set_self lt] at h; exact absurd (Option.some.inj h).symm hd
  · rw [List.getElem?_set_ne q] at h; exact ⟨fun z => q z.symm, h⟩
 refine ⟨fun b u hb => ?_, by rw [g.n, List.length_set], fun j d hj hd => ?_, fun j k d1 d2 hj hk e1 e2 he => ?_⟩
 · rw [kB (fun z => by rw [z, h1] at hb; cases hb)]
   exact g.fh b u hb
 · obtain ⟨q, h⟩ := at_ j d hj hd
   obtain ⟨k1, u, k2, k3⟩ := g.cs j d h hd
   exact ⟨k1, u, by rw [kB fun z => q (g.inj j i d c h hi hd hc z)]; exact k2, k3⟩
 · exact g.inj j k d1 d2 (at_ j d1 hj e1).2 (at_ k d2 hk e2).2 e1 e2 he
theorem BY {nm : Str} {h : FN} {fa : AF} (b : SA K tA fa) : SSX K EE (xK EE (aP K nm) (spM K h) tA) (mP nm h fa) := by
 intro γ M o M' hh W H σ D G R k
 obtain ⟨⟨x, M1⟩, h1, hh⟩ := aH hh
 obtain ⟨⟨i, fr, nm', fs⟩, h2, hh⟩ := aH hh
 by_cases hc : fr = true /\ nm' = nm
 · have hh : (if fr = true /\ nm' = nm then some (OutX.xc γ ⟨nm, fs⟩, M1.set i .dead) else none) = some (o, M') := hh
   rw [if_pos hc] at hh
   cases hh
   obtain ⟨rfl, rfl⟩ := hc
   refine JG b _ _ _ _ h1 W H σ _ G R fun v W1 H1 e1 G1 r1 => ?_
   obtain ⟨rfl, hM⟩ := sC h2
   obtain ⟨dx, hH, hx⟩ := G1.excAt hM
   exact ⟨_, dx, r1.2, hH, k W1 _ e1 (G1.kill hM (by intro q; cases q)) σ _ dx (R.up e1) ⟨rfl, hx⟩⟩
 · have hh : (if fr = true /\ nm' = nm then some (OutX.xc γ ⟨nm, fs⟩, M1.set i .dead) else none) = some (o, M') := hh
   rw [if_neg hc] at hh; cases hh
end
end L2
end
section
set_option Elab.async false
set_option linter.all false
set_option maxRecDepth 100000
set_option maxHeartbeats 4000000
namespace L2
open PySem PySem.Spec PyProof.Rows
structure uB (P : Program) (w : World) (K : PySem.W.Frag) (mg : Str -> Option Value) (base : Heap) (k : Nat) (nm : Str) (ps : List Str) (sp : Sp) : Prop where
 ex : ∃ f fd, FnOk P w K mg base CX0 k f fd ps sp /\ MkX K (aP K nm) f /\ Binds K fd ps []
section
variable {P : Program} {w : World} {K : PySem.W.Frag} {mg : Str -> Option Value} {base : Heap}
theorem MDef.okIX {nm qual : Str} {st : Stmt} {N ps : List Str} {k : Nat} {b : SF} (D : MDef K nm "__init__" qual st) (hm : xM K (aP K nm) = true) (hk : PySem.W.keepIn K (.ref (aP K nm)) = true) (S : aS N ps (aG st))
 (hb : ∀ (kV doc pm : Value) (an : Option Addr) (cdv ct : Value) (us : List Value), us.length = ps.length -> bindArgs (PySem.W.fnOf "__init__" qual (cW st) (bI st) (aG st) .none kV doc pm an cdv ct) ⟨us, []⟩ = pure (ps.zip us))
 (hbody : ∀ (f : Addr) (cdv : Value) (A : Around) (outer : List Env) (s : Shared) (H : Hp) (E : XK), Room k (A.deeper (envOfC qual (aG st) s.heap.objs.size f cdv)) ->
  ML K (fun _ : Unit => (jB CX0 P w K mg base N qual (aG st) f cdv A outer s H E).nox) (bI st) b) : uB P w K mg base (k + 1) nm ps (spM K (fnF ps.length N.length b)) := by
 obtain ⟨f, fd, F, h1, h2⟩ := D.ex
 exact ⟨f, fd, F.okQ S hbody, ⟨hm, h1, h2, hk⟩, F.binds hb⟩
theorem DU {nm m qual : Str} {st : Stmt} {C f : Addr} {oc : Value} {od an : Option Addr} {osl : Array (Option Value)} {kV doc pm cdv ct : Value} (hC : aP K nm = C) (hf : PySem.W.findIn K (.ref C) m = some (some (.ref f)))
 (l : K.lookup f = some ⟨oc, od, .func (PySem.W.fnOf m qual (cW st) (bI st) (aG st) .none kV doc pm an cdv ct), osl⟩) (c : PySem.W.codeIn K cdv qual = true) (k : PySem.W.keepIn K (.ref f) = true) (fn : PySem.W.isFn K (.ref f) = true) : MDef K nm m qual st :=
 ⟨f, _, NP l c k, by rw [hC]; exact hf, fn⟩
end
section
variable {ι : Type} {K : PySem.W.Frag} {X : ι -> Cx} {EE : ι -> St -> XK} {e o a b : Expr} {es : List Expr} {f g : EF} {fa : AF} {pos : Pos}
theorem tU {k : Nat} {nm : Str} {ps : List Str} {F : FN} {p cpos : Pos} (ok : ∀ i, XOk (X i) (EE i)) (C : ∀ i, uB (X i).prog (X i).w (X i).K (X i).mg (X i).base k nm ps (spM K F)) (hK : ∀ i, (X i).K = K) (hc : ∀ i, (X i).calm = true) (hm : ∀ i, (X i).mg nm = some (.ref (aP K nm))) (be : PySem.W.subIn K (.ref (aP K nm)) (.type "BaseException") = some true)
 (hr : ∀ i, Room (k + 1) (X i).A) (y : MA K X (e :: es) fa) (hg : ∀ i, Gl (X i) nm := by intro _; rfl) (hd : (nm == ("__debug__" : Str)) = false := by decide) :
 MSX K X EE (.Raise (some (.Call (.Name nm p) (e :: es) [] cpos)) none pos) (mP nm F fa) := by
 obtain ⟨u, y1, y2⟩ := y.ex
 refine ⟨fun i => xK (EE i) (aP K nm) (spM K F) u, fun i => ?_, fun i => BY y2⟩
 obtain ⟨f, fd, F', M, B⟩ := (C i).ex
 have hmi : (X i).mg nm = some (.ref (aP (X i).K nm)) := by rw [hK i]; exact hm i
 have := GN (ok i) (hc i) M (by rw [hK i]; exact be) F' (hr i) (hg i) hmi B (y1 i) hd (y.st.1 _) (y.st.2.plain _ _) (p := p) (cpos := cpos) (pos := pos)
 rw [hK i] at this
 exact this
theorem OU {nm fl : Str} {pos' : Pos} (hK : ∀ i, (X i).K = K) (hc : pJ K (aP K nm) fl) (x : ME K X o f) (y : ME K X e g) (hs : ∀ i, swapsWith e (some (.Attribute o fl pos')) pos.line (X i).env = pure false := by intro _; rfl) : MS K X (.Assign [.Attribute o fl pos'] e pos) (yC nm fl f g) := by
 obtain ⟨t, x1, x2⟩ := x.ex; obtain ⟨u, y1, y2⟩ := y.ex
 refine ⟨_, fun i => ?_, TN hc x2 y2⟩
 have := RH (x1 i) (y1 i) (hs i)
 rw [hK i] at this
 exact this
theorem TB {nms : List Str} {fl : Str} (hK : ∀ i, (X i).K = K) (hc : ∀ nm ∈ nms, pH K (aP K nm) /\ pJ K (aP K nm) fl) (x : ME K X o f) (hb : ∀ env : Env, attributeBase o fl env (eval o env) = eval o env := by intro _; rfl) : ME K X (.Attribute o fl pos) (EG nms fl f) := by
 obtain ⟨t, x1, x2⟩ := x.ex
 refine ⟨_, fun i => ?_, RF hc x2⟩
 have := PH (x1 i) (hb _) (pos := pos)
 rw [hK i] at this
 exact this
theorem IB {fl : Str} : ∀ nm ∈ ([] : List Str), pH K (aP K nm) /\ pJ K (aP K nm) fl := fun _ h => absurd h (by simp)
theorem GL {fl a : Str} {l : List Str} (x : pH K (aP K a)) (h : pJ K (aP K a) fl) (r : ∀ nm ∈ l, pH K (aP K nm) /\ pJ K (aP K nm) fl) : ∀ nm ∈ a :: l, pH K (aP K nm) /\ pJ K (aP K nm) fl := fun p hp => by
 rcases List.mem_cons.mp hp with rfl | z
 · exact ⟨x, h⟩
 · exact r p z
end
end L2
end
section
set_option Elab.async false
set_option linter.all false
set_option maxRecDepth 100000
set_option maxHeartbeats 4000000
namespace L2
open PySem PySem.Spec PyProof.Rows
section
variable {K : PySem.W.Frag}
def hZ (K : PySem.W.Frag) (c : Value) (tab : List (Str × Bool)) : Bool := tab.all fun p => match PySem.W.kitOne K (.ref (aP K p.1)) c with
 | some b => b == p.2
 | none => false
theorem fA {c : Value} {tab : List (Str × Bool)} {ns : List Str} (hx : ∀ nm ∈ ns, XC K (aP K nm)) (h : hZ K c tab = true) (e : tab.map Prod.fst = ns) : ∀ p ∈ tab, XC K (aP K p.1) /\ PySem.W.kitOne K (.ref (aP K p.1)) c = some p.2 := by
 intro p hp
 refine ⟨hx _ (by rw [<- e]; exact List.mem_map_of_mem hp), ?_⟩
 have := List.all_eq_true.mp h p hp
 split at this
 · rename_i b hb
   rw [hb, eq_of_beq this]
 · cases this
theorem PR : ∀ nm ∈ ([] : List Str), XC K (aP K nm) := fun _ h => absurd h (by simp)
theorem zF {a : Str} {l : List Str} (x : XC K (aP K a)) (r : ∀ nm ∈ l, XC K (aP K nm)) : ∀ nm ∈ a :: l, XC K (aP K nm) := fun p hp => by
 rcases List.mem_cons.mp hp with rfl | z
 · exact x
 · exact r p z
end
end L2
end
section
set_option Elab.async false
set_option linter.all false
set_option maxRecDepth 100000
set_option maxHeartbeats 4000000
namespace L2
open PySem PySem.Spec PyProof.Rows
abbrev KY := Key ⊕ List Key
abbrev KF := Ga -> Sto -> Option (KY × Sto)
def KRep (W : Wd) : KY -> V -> Prop
 | .inl k, v => v = kV k
 | .inr ks, v => ∃ b, v = .ref b /\ W.F b = some (.tup (ks.map kV))
theorem KRep.up {W W' : Wd} {k : KY} {v : V} (h : KRep W k v) (e : W.Ext W') : KRep W' k v := by
 cases k with
 | inl k => exact h
 | inr ks => obtain ⟨b, h1, h2⟩ := h; exact ⟨b, h1, e.ff _ _ h2⟩
section
variable {K : PySem.W.Frag}
def SK (K : PySem.W.Frag) (t : TE) (f : KF) : Prop := ∀ γ M k M', f γ M = some (k, M') -> ∀ (W : Wd) (H : Hp) (σ : St) (Q : VK), Good K W M H -> RepS K W γ σ -> (∀ v W' H', W.Ext W' -> Good K W' M' H' -> KRep W' k v -> Q v H') -> t σ H Q
def keysOf : List CD -> Option (List Key)
 | [] => some []
 | x :: xs => (keyOf x).bind fun k => (keysOf xs).bind fun ks => some (k :: ks)
def uW (fa : AF) : KF := fun γ M => (fa γ M).bind fun r => (keysOf r.1).bind fun ks => if ks.length <= sizeLine then some (.inr ks, r.2) else none
variable {t td ty tx tv : TE} {tA : TA} {f fo fx fv : EF} {fk : KF} {fa : AF}
theorem tY {W : Wd} : ∀ {xs : List CD} {ks : List Key} {vs : List V}, keysOf xs = some ks -> RepVs K W xs vs -> vs = ks.map kV
 | [], ks, vs, h, r => by cases h; cases r; rfl
 | x :: xs, ks, vs, h, r => by
  obtain ⟨k, h1, h⟩ := aH h
  obtain ⟨ks', h2, h⟩ := aH h
  cases h
  cases r with
  | cons r1 r2 => rw [vW h1 r1, tY h2 r2]; rfl
theorem WG (b : SA K tA fa) : SK K (JK tA) (uW fa) := by
 intro γ M k M' hh W H σ Q G R c
 obtain ⟨⟨ys, M1⟩, h1, hh⟩ := aH hh
 obtain ⟨ks, h2, hh⟩ := aH hh
 by_cases hl : ks.length <= sizeLine
 · rw [if_pos hl] at hh
   cases hh
   refine b _ _ _ _ h1 W H σ _ G R fun vs W1 H1 e1 G1 r1 => ?_
   have ev := tY h2 r1
   refine ⟨by rw [ev, List.length_map]; exact hl, fun p hp => ?_⟩
   obtain ⟨e2, G2⟩ := G1.lay (o := .tup vs) hp
   exact c _ _ _ (e1.trans e2) G2 ⟨p, rfl, by show upd W1.F p (.tup vs) p = _; rw [aT, ev]⟩
 · rw [if_neg hl] at hh; cases hh
section
variable {κ : Type} [DecidableEq κ]
def lkC (kvs : List (κ × CD)) (k : κ) : Option CD := (kvs.find? fun kv => decide (kv.1 = k)).map (·.2)
def putD (kvs : List (κ × CD)) (k : κ) (v : CD) : List (κ × CD) :=
 if (kvs.any fun kv => decide (kv.1 = k)) = true then kvs.map (fun kv => if kv.1 = k then (kv.1, v) else kv) else kvs ++ [(k, v)]
abbrev PKV (K : PySem.W.Frag) (W : Wd) (kvs : List (κ × CD)) (us : List (κ × V)) : Prop := Paired (fun p q => p.1 = q.1 /\ RepV K W p.2 q.2) kvs us
theorem xU {W : Wd} {k : κ} : ∀ {kvs : List (κ × CD)} {us : List (κ × V)}, PKV K W kvs us -> BM K W (lkC kvs k) (jA us k)
 | _, _, .nil => True.intro
 | _, _, .cons (a := p) (b := q) (l₁ := ps) (l₂ := qs) r1 r2 => by
  by_cases h : p.1 = k
  · have h' : q.1 = k := r1.1 ▸ h
    rw [show lkC (p :: ps) k = some p.2 by simp [lkC, List.find?_cons, h], show jA (q :: qs) k = some q.2 by simp [jA, List.find?_cons, h']]
    exact r1.2
  · have h' : ¬ q.1 = k := r1.1 ▸ h
    rw [show lkC (p :: ps) k = lkC ps k by simp [lkC, List.find?_cons, h], show jA (q :: qs) k = jA qs k by simp [jA, List.find?_cons, h']]
    exact xU r2
theorem BD {W : Wd} {k : κ} : ∀ {kvs : List (κ × CD)} {us : List (κ × V)}, PKV K W kvs us -> (kvs.any fun kv => decide (kv.1 = k)) = us.any fun kv => decide (kv.1 = k)
 | _, _, .nil => rfl
 | _, _, .cons r1 r2 => by rw [List.any_cons, List.any_cons, BD r2, r1.1]
theorem zW {W : Wd} {k : κ} {x : CD} {v : V} (rv : RepV K W x v) : ∀ {kvs : List (κ × CD)} {us : List (κ × V)}, PKV K W kvs us -> PKV K W (kvs.map fun kv => if kv.1 = k then (kv.1, x) else kv) (us.map fun kv => if kv.1 = k then (kv.1, v) else kv)
 | _, _, .nil => .nil
 | _, _, .cons (a := p) (b := q) r1 r2 => by
  rw [List.map_cons, List.map_cons]
  refine .cons ?_ (zW rv r2)
  by_cases h : p.1 = k
  · rw [if_pos h, if_pos (r1.1 ▸ h)]; exact ⟨r1.1, rv⟩
  · rw [if_neg h, if_neg (r1.1 ▸ h)]; exact r1
theorem vC {W : Wd} {k : κ} {x : CD} {v : V} {kvs : List (κ × CD)} {us : List (κ × V)} (r : PKV K W kvs us) (rv : RepV K W x v) : PKV K W (putD kvs k x) (putK us k v) := by
 unfold putD putK
 rw [BD r]
 split
 · exact zW rv r
 · exact Paired.app r (.cons ⟨rfl, rv⟩ .nil)
end
def atD (M : Sto) : CD -> KY -> Option (Option CD)
 | .c i, .inl k => match M[i]? with
  | some (.dk kvs) => some (lkC kvs k)
  | _ => none
 | .c i, .inr ks => match M[i]? with
  | some (.dt kvs) => some (lkC kvs ks)
  | _ => none
 | _, _ => none
def AY (M : Sto) : CD -> KY -> CD -> Option Sto
 | .c i, .inl k, x => match M[i]? with
  | some (.dk kvs) => if kvs.length < sizeLine then some (M.set i (.dk (putD kvs k x))) else none
  | _ => none
 | .c i, .inr ks, x => match M[i]? with
  | some (.dt kvs) => if kvs.length < sizeLine then some (M.set i (.dt (putD kvs ks x))) else none
  | _ => none
 | _, _, _ => none
theorem Good.dkAt {W : Wd} {M : Sto} {H : Hp} {i : Nat} {kvs : List (Key × CD)} (G : Good K W M H) (h : M[i]? = some (.dk kvs)) : ∃ us, H (W.α i) = some (.dK us) /\ PKV K W kvs us := by
 obtain ⟨_, o, h2, h3⟩ := G.cs i _ h (by intro z; cases z)
 cases o <;> first | exact ⟨_, h2, h3⟩ | exact False.elim h3
theorem Good.dtAt {W : Wd} {M : Sto} {H : Hp} {i : Nat} {kvs : List (List Key × CD)} (G : Good K W M H) (h : M[i]? = some (.dt kvs)) : ∃ us, H (W.α i) = some (.dT us) /\ PKV K W kvs us := by
 obtain ⟨_, o, h2, h3⟩ := G.cs i _ h (by intro z; cases z)
 cases o <;> first | exact ⟨_, h2, h3⟩ | exact False.elim h3
theorem TJ {W : Wd} {M : Sto} {H : Hp} {x : CD} {k : KY} {r : Option CD} {v y : V} (G : Good K W M H) (h : atD M x k = some r) (rx : RepV K W x v) (ry : KRep W k y) : ∃ a o, v = .ref a /\ DGet H a y o /\ BM K W r o := by
 unfold atD at h
 split at h
 · rename_i i k'
   split at h
   · rename_i kvs hk
     cases h
     obtain ⟨us, h1, h2⟩ := G.dkAt hk
     refine ⟨_, _, rx.2, ?_, xU h2⟩
     rw [show y = kV k' from ry]
     exact DGet.k h1
   · cases h
 · rename_i i ks
   split at h
   · rename_i kvs hk
     cases h
     obtain ⟨us, h1, h2⟩ := G.dtAt hk
     obtain ⟨b, rfl, hb⟩ := ry
     exact ⟨_, _, rx.2, DGet.t h1 (G.fh _ _ hb), xU h2⟩
   · cases h
 · cases h
theorem AC {W : Wd} {M M' : Sto} {H : Hp} {x z : CD} {k : KY} {v y u : V} (G : Good K W M H) (h : AY M x k z = some M') (rx : RepV K W x v) (ry : KRep W k y) (rz : RepV K W z u) : ∃ a H', v = .ref a /\ DPut H a y u H' /\ Good K W M' H' := by
 unfold AY at h
 split at h
 · rename_i z' i k'
   split at h
   · rename_i kvs hk
     by_cases hl : kvs.length < sizeLine
     · rw [if_pos hl] at h
       cases h
       obtain ⟨us, h1, h2⟩ := G.dkAt hk
       refine ⟨_, _, rx.2, ?_, G.set hk (by intro q; cases q) (o' := .dK (putK us k' u)) (vC h2 rz)⟩
       rw [show y = kV k' from ry]
       exact DPut.k h1 (by rw [<- Paired.len h2]; exact hl)
     · rw [if_neg hl] at h; cases h
   · cases h
 · rename_i z' i ks
   split at h
   · rename_i kvs hk
     by_cases hl : kvs.length < sizeLine
     · rw [if_pos hl] at h
       cases h
       obtain ⟨us, h1, h2⟩ := G.dtAt hk
       obtain ⟨b, rfl, hb⟩ := ry
       exact ⟨_, _, rx.2, DPut.t h1 (G.fh _ _ hb) (by rw [<- Paired.len h2]; exact hl), G.set hk (by intro q; cases q) (o' := .dT (putK us ks u)) (vC h2 rz)⟩
     · rw [if_neg hl] at h; cases h
   · cases h
 · cases h
def sI : EF := fun _ M => some (.c M.length, M ++ [.dt []])
def LY (neg : Bool) (fk : KF) (fo : EF) : EF := fun γ M => (fk γ M).bind fun k => (fo γ k.2).bind fun o => (atD o.2 o.1 k.1).bind fun r => some (.d (.bool (if neg then !r.isSome else r.isSome)), o.2)
def xA (fo : EF) (fk : KF) (fv : EF) : SF := fun γ M => (fv γ M).bind fun v => (fo γ v.2).bind fun o => (fk γ o.2).bind fun k => (AY k.2 o.1 k.1 v.1).bind fun M' => some (.nx γ, M')
theorem HZ : SE K ON sI := by
 intro γ M x M' hh W H σ Q G R k
 cases hh
 exact fun p hp => k _ (W.more p) _ (W.ext_more p) (G.new hp (c := .dt []) (o := .dT []) .nil) G.newV
theorem HI {W : Wd} {r : Option CD} {o : Option V} (h : BM K W r o) : o.isSome = r.isSome := by
 cases r <;> cases o <;> first | rfl | exact False.elim h
theorem XM (b : SK K ty fk) (a : SE K td fo) : SE K (aCm ty td) (LY false fk fo) := by
 intro γ M x M' hh W H σ Q G R k
 obtain ⟨⟨ky, M1⟩, h1, hh⟩ := aH hh
 obtain ⟨⟨o, M2⟩, h2, hh⟩ := aH hh
 obtain ⟨r, h3, hh⟩ := aH hh
 cases hh
 refine b _ _ _ _ h1 W H σ _ G R fun y W1 H1 e1 G1 r1 => a _ _ _ _ h2 W1 H1 σ _ G1 (R.up e1) fun v W2 H2 e2 G2 r2 => ?_
 obtain ⟨p, ov, ev, g, ro⟩ := TJ G2 h3 r2 (r1.up e2)
 refine ⟨p, ov, ev, g, k _ W2 H2 (e1.trans e2) G2 ?_⟩
 show _ = V.bl r.isSome
 rw [HI ro]
theorem UH (a : SE K td fo) (b : SK K ty fk) (c : SE K tv fv) : SS K (WB td ty tv) (xA fo fk fv) := by
 intro γ M o M' hh W H σ D G R k
 obtain ⟨⟨z, M1⟩, h1, hh⟩ := aH hh
 obtain ⟨⟨x, M2⟩, h2, hh⟩ := aH hh
 obtain ⟨⟨ky, M3⟩, h3, hh⟩ := aH hh
 obtain ⟨M4, h4, hh⟩ := aH hh
 cases hh
 refine c _ _ _ _ h1 W H σ _ G R fun u W1 H1 e1 G1 r1 => a _ _ _ _ h2 W1 H1 σ _ G1 (R.up e1) fun v W2 H2 e2 G2 r2 => b _ _ _ _ h3 W2 H2 σ _ G2 (R.up (e1.trans e2)) fun y W3 H3 e3 G3 r3 => ?_
 obtain ⟨p, H4, ev, g, G4⟩ := AC G3 h4 (r2.up e3) r3 ((r1.up e2).up e3)
 exact ⟨p, H4, ev, g, k W3 H4 ((e1.trans e2).trans e3) G4 σ (R.up ((e1.trans e2).trans e3))⟩
end
end L2
end
section
set_option Elab.async false
set_option linter.all false
set_option maxRecDepth 100000
set_option maxHeartbeats 4000000
namespace L2
open PySem PySem.Spec PyProof.Rows
section
variable {ι : Type}
structure MK (K : PySem.W.Frag) (X : ι -> Cx) (e : Expr) (f : KF) : Prop where
 ex : ∃ t, (∀ i, PE (X i) e t) /\ SK K t f
variable {K : PySem.W.Frag} {X : ι -> Cx} {e o i a b : Expr} {es : List Expr} {f g fx : EF} {fk : KF} {fa : AF} {pos : Pos}
theorem BR {k : Nat} (x : MA K X es fa) : MK K X (.Tuple es k pos) (uW fa) := by
 obtain ⟨t, x1, x2⟩ := x.ex
 exact ⟨_, fun i => wY (x1 i), WG x2⟩
theorem NQ : ME K X (.Dict [] [] pos) sI := ⟨_, fun _ => KB, HZ⟩
theorem XA (hu : ∀ j, (X j).A.units + 1 < cLine) (y : MK K X i fk) (x : ME K X o f) (hm : behindInMarks .In o = false := by rfl) : MT K X (.Compare i [.In] [o] pos) (gB (LY false fk f)) := by
 obtain ⟨t, x1, x2⟩ := x.ex; obtain ⟨u, y1, y2⟩ := y.ex
 exact ⟨_, fun j => YM (aAl (hu j) (y1 j) (x1 j)) hm, XD (XM y2 x2)⟩
theorem TK {pos' : Pos} (hu : ∀ j, (X j).A.units + 1 < cLine) (x : ME K X o f) (y : MK K X i fk) (z : ME K X e g) (hs : ∀ j, swapsWith e (some (.Subscript o i pos')) pos.line (X j).env = pure false := by intro _; rfl) : MS K X (.Assign [.Subscript o i pos'] e pos) (xA f fk g) := by
 obtain ⟨t, x1, x2⟩ := x.ex; obtain ⟨u, y1, y2⟩ := y.ex; obtain ⟨v, z1, z2⟩ := z.ex
 exact ⟨_, fun j => UK (hu j) (x1 j) (y1 j) (z1 j) (hs j), UH x2 y2 z2⟩
end
end L2
end
section
set_option Elab.async false
set_option linter.all false
set_option maxRecDepth 100000
set_option maxHeartbeats 4000000
namespace PySem
open Sem (wp)
open AutoSeq1 (wpAny_loadPart')
section
variable {prog : Program} {w : World} {A : Around} {E : Value -> Shared -> Prop} {s : Shared}
theorem uT {it l : Addr} {i : Nat} {items} {x : Value} {Q : Value -> Shared -> Prop} (hit : s.heap.IsTupleIter it l i) (hl : s.heap.IsTuple l items) (hx : items[i]? = some x)
 (hQ : ∀ h', h'.IsTupleIter it l (i + 1) -> Heap.SameBut it s.heap h' -> Q x { s with heap := h' }) : wpAny (model prog w) A (Builtin.SmallTypes.nextOf (.ref it)) Q E s := by
 obtain ⟨o, ho, hc, hd⟩ := id hit
 obtain ⟨ol, hol, _, nl, hdl⟩ := hl
 unfold Builtin.SmallTypes.nextOf
 refine wpAny_bind (wpAny_callSpecial?_slot (name := Str.ofString "__next__") hit.typeIs F.slot_tuple_iterator_next (wpAny_call_entry F.slot_tuple_iterator_next hit.typeIs F.entry_tuple_iterator_next ?_ (F.args_tuple_iterator_next_1 _)))
 show wpAny _ _ (field (.ref it) 0 >>= _) _ _ s
 refine wpAny_bind (wpAny_field ho hd (x := .ref l) rfl ?_)
 show wpAny _ _ (if (Value.ref l == Value.none) = true then _ else _) _ _ s
 rw [if_neg (show ¬ ((Value.ref l == Value.none) = true) from Bool.false_ne_true)]
 show wpAny _ _ (field (.ref it) 1 >>= _) _ _ s
 refine wpAny_bind (wpAny_field ho hd (x := .int i 0) rfl ?_)
 show wpAny _ _ (seqItems? (.ref l) >>= _) _ _ s
 refine wpAny_bind (wpAny_seqItems hol hdl ?_)
 simp only [Int.toNat_natCast, hx]
 refine wpAny_bind (wpAny_setField ho hd (by simp) (wpAny_pure ⟨x, rfl, wpAny_pure (hQ _ ?_ (Heap.SameBut.update ..))⟩))
 exact ⟨_, Heap.get?_update_self _ ho (Obj.isFreed_of_fields (Obj.data_mapFields hd _)), (Obj.cls_mapFields ..).trans hc, by rw [Obj.data_mapFields hd]; simp [rawInt]⟩
theorem qD {it l : Addr} {i : Nat} {items} {Q : Value -> Shared -> Prop} (hh : A.handled = none) (hit : s.heap.IsTupleIter it l i) (hl : s.heap.IsTuple l items) (hx : items[i]? = none)
 (hE : ∀ h' e, Heap.ExtBut it s.heap h' -> (∃ o, h'.get? e = some o /\ o.cls = .type "StopIteration") -> E (.ref e) { s with heap := h' }) : wpAny (model prog w) A (Builtin.SmallTypes.nextOf (.ref it)) Q E s := by
 obtain ⟨o, ho, hc, hd⟩ := id hit
 obtain ⟨ol, hol, _, nl, hdl⟩ := hl
 unfold Builtin.SmallTypes.nextOf
 refine wpAny_bind (wpAny_callSpecial?_slot (name := Str.ofString "__next__") hit.typeIs F.slot_tuple_iterator_next (wpAny_call_entry F.slot_tuple_iterator_next hit.typeIs F.entry_tuple_iterator_next ?_ (F.args_tuple_iterator_next_1 _)))
 show wpAny _ _ (field (.ref it) 0 >>= _) _ _ s
 refine wpAny_bind (wpAny_field ho hd (x := .ref l) rfl ?_)
 show wpAny _ _ (if (Value.ref l == Value.none) = true then _ else _) _ _ s
 rw [if_neg (show ¬ ((Value.ref l == Value.none) = true) from Bool.false_ne_true)]
 show wpAny _ _ (field (.ref it) 1 >>= _) _ _ s
 refine wpAny_bind (wpAny_field ho hd (x := .int i 0) rfl ?_)
 show wpAny _ _ (seqItems? (.ref l) >>= _) _ _ s
 refine wpAny_bind (wpAny_seqItems hol hdl ?_)
 simp only [Int.toNat_natCast, hx]
 refine wpAny_bind (wpAny_rule (wpAny_bind (wpAny_setField ho hd (by simp) ?_)))
 show wpAny _ _ (newExc (.type "StopIteration") [] >>= _) _ _ _
 refine wpAny_bind ?_
 simp only [newExc, newTuple]
 refine wpAny_bind (wpAny_newObj_type ?_ (by size_fits))
 refine wpAny_bind (m := firstArgMember _ _) (wpAny_of_eq (a := Value.none) (by first | rfl | (simp only [firstArgMember]; rfl)) ?_)
 refine wpAny_newObj_type ?_ (by size_fits)
 simp only [raiseNew]
 refine wpAny_bind (wpAny_handled ?_)
 first | rw [show A.in1.handled = none from hh] | rw [hh]
 refine wpAny_bind (wpAny_pure (wpAny_throw ?_))
 exact hE _ _ (((Heap.SameBut.update ..).extBut.push _).push _) ⟨_, Heap.get?_push_size _ rfl, rfl⟩
end
theorem GP {prog : Program} {w : World} {A : Around} (hh : A.handled = none) (it l : Addr) (hne : l ≠ it) (items : Array Value) :
 Draws prog w A it [it, l] items.size (fun i v => items[i]? = some v) (fun i h => h.IsTupleIter it l i /\ h.IsTuple l items) where
 live := fun _ _ st => let ⟨o, ho, _⟩ := st.1; ⟨o, ho⟩
 frame := fun _ _ _ st hk => ⟨st.1.at fun o e => hk it (by simp) o e, let ⟨o, ho, r⟩ := st.2; ⟨o, hk l (by simp) o ho, r⟩⟩
 item := fun i s Q E hi st hQ => by
  refine uT st.1 st.2 (x := items[i]) (by simp [hi]) fun h' hit' hs' => ?_
  exact hQ _ h' s.toks (by simp [hi]) ⟨hit', let ⟨o, ho, r⟩ := st.2; ⟨o, (hs'.2 l hne).trans ho, r⟩⟩ hs'
 done := fun s Q E st hE => qD hh st.1 st.2 (by simp) hE
theorem tI (l : Addr) (items : Array Value) (n : Nat) (dct : Option Addr) (sl : Array (Option Value)) :
 Meets (Builtin.«enumerate.__new__» ⟨[.type "enumerate", .ref l], []⟩) (fun _ R s => s.heap.get? l = some { cls := .type "tuple", dict := dct, data := .seq items n, slots := sl } /\
  R (.ok (.ret (.ref (s.heap.push { cls := .type "tuple_iterator", data := .fields #[.ref l, .int 0 0] }).objs.size)))
   { s with heap := (s.heap.push { cls := .type "tuple_iterator", data := .fields #[.ref l, .int 0 0] }).push { cls := .type "enumerate", data := .fields #[.none, .bool false, .ref s.heap.objs.size, rawInt 0, .none, .none] } }) :=
 .of_wp fun prog w A R s h => by
  obtain ⟨hp, g, d, tk, os⟩ := s; obtain ⟨hl, h⟩ := h
  have hsub := sub_enumerate
  have hL : Heap.IsTuple (Shared.heap ⟨hp, g, d, tk, os⟩) l items := ⟨_, hl, rfl, n, rfl⟩
  wp_walk using wpAny_loadPart' hl
  refine wpAny_stack_any fun st => wpAny_pure ?_
  split
  · rename_i c _ _ _ _ _
    cases (c == Value.type "enumerate")
    · wp_walk using wpAny_loadPart' hl, wpAny_pyIter_tuple hL
      exact ⟨_, rfl, h⟩
    · wp_walk using wpAny_loadPart' hl, wpAny_pyIter_tuple hL
      exact ⟨_, rfl, h⟩
  · wp_walk using wpAny_loadPart' hl, wpAny_pyIter_tuple hL
    exact ⟨_, rfl, h⟩
section
variable {prog : Program} {w : World} {A : Around} {E : Value -> Shared -> Prop} {s : Shared}
theorem uZ {l : Addr} {items : Array Value} {Q : Value -> Shared -> Prop} (hL : s.heap.IsTuple l items)
 (h : ∀ h', IsEnum h' (s.heap.objs.size + 1) s.heap.objs.size 0 .none -> h'.IsTupleIter s.heap.objs.size l 0 -> h'.objs.size = s.heap.objs.size + 2 ->
  (∀ b o, s.heap.get? b = some o -> h'.get? b = some o) -> Q (.ref (s.heap.objs.size + 1)) { s with heap := h' }) :
 wpAny (model prog w) A (call (.type "enumerate") [.ref l]) Q E s := by
 obtain ⟨⟨c, dct, dt, sl⟩, hl, hc, n, hd⟩ := hL
 replace hc : c = .type "tuple" := hc
 replace hd : dt = .seq items n := hd
 subst hc hd
 refine callType_new F.called_enumerate (by decide) (F.typeCall_enumerate_1 _) (F.newCall_enumerate_1 _) (fun obj => F.args_object_init_2 obj _) F.entry_enumerate_new
  (tI l items n dct sl) ⟨hl, ?_⟩
 have hz : (s.heap.push { cls := .type "tuple_iterator", data := .fields #[.ref l, .int 0 0] }).objs.size = s.heap.objs.size + 1 := Heap.size_push ..
 show _ /\ _
 rw [hz]
 have he : IsEnum ((s.heap.push { cls := .type "tuple_iterator", data := .fields #[.ref l, .int 0 0] }).push
  { cls := .type "enumerate", data := .fields #[.none, .bool false, .ref s.heap.objs.size, rawInt 0, .none, .none] }) (s.heap.objs.size + 1) s.heap.objs.size 0 .none := by
  have := Heap.get?_push_size (s.heap.push { cls := .type "tuple_iterator", data := .fields #[.ref l, .int 0 0] })
   (o := { cls := .type "enumerate", data := .fields #[.none, .bool false, .ref s.heap.objs.size, rawInt 0, .none, .none] }) rfl
  rw [hz] at this; exact this
 refine ⟨⟨_, he, rfl⟩, h _ he ⟨_, Heap.get?_push_of_some _ (Heap.get?_push_size _ rfl), rfl, rfl⟩ (by rw [Heap.size_push, hz]) fun b o x => Heap.get?_push_of_some _ (Heap.get?_push_of_some _ x)⟩
end
end PySem
namespace L2
open PySem PySem.Spec PyProof.Rows
section
variable {X : Cx} {pins : List (Addr × Obj)} {σ : St} {H : Hp} {s : Shared} {h' : Heap}
theorem Inv.turnLay {fp : List Addr} {a : Addr} {o : HO} {t' : Nat} (I : Inv X pins σ H s) (hf : ∀ b ∈ fp, mS X pins H b) (k : ∀ b u, b ∉ fp -> s.heap.get? b = some u -> h'.get? b = some u) (hp : s.heap.objs.size <= a) (new : ObjOk X.prog X.w (upd H a o) h' a o) :
 Inv X pins σ (upd H a o) { s with heap := h', toks := t' } := by
 have hn : H a = none := I.hok.fresh hp
 have nf : ∀ b u, H b = some u -> b ∉ fp := fun b u e z => by rw [(hf b z).1] at e; cases e
 refine I.step (g' := s.gens) (d' := s.drawn) (ch := fp) (fun b hb => ?_) (fun b o _ _ hc e _ => k b o hc e) (fun b o _ _ hc e _ => ⟨o.slots, k b o hc e⟩) (fun b o _ e n => ?_) (fun b o hc e => ⟨o, k b o hc e⟩)
  (fun b xs e => ?_) (fun b o u e => ?_) (fun b ps e => ⟨#[], ?_⟩) (fun m hm => ?_) ?_ I.bare
 · obtain ⟨_, f1, _, f3, f4, f5⟩ := hf b hb
   exact ⟨f3, f1, f4, f5⟩
 · rw [aI (fun z => by subst z; exact absurd (Heap.lt_size e) (Nat.not_lt.mpr hp))]; exact n
 · rw [aI (aN e hn)]; exact e
 · rw [aI (aN e hn)]; exact e
 · rw [aI (aN e hn)]; simpa using e
 · obtain ⟨o, es, ep, ho, r⟩ := hm
   exact ⟨o, es, ep, k _ o (fun z => (hf _ z).2.1 rfl) ho, r⟩
 · intro b u e
   by_cases hb : b = a
   · subst hb; rw [aT] at e; cases e; exact new
   · rw [aI hb] at e
     refine (I.hok b u e).stay (fun c v hc q => k c v ?_ q) (fun c q => by rw [aI (aN q hn)]; exact q) fun c xs q => by rw [aI (aN q hn)]; exact q
     rcases hc with z | z
     · rw [z]; exact nf b _ e
     · exact nf c _ z
theorem Inv.turnF {fp : List Addr} {t' : Nat} (I : Inv X pins σ H s) (hf : ∀ b ∈ fp, mS X pins H b) (k : ∀ b u, b ∉ fp -> s.heap.get? b = some u -> h'.get? b = some u) : Inv X pins σ H { s with heap := h', toks := t' } := by
 have nf : ∀ b u, H b = some u -> b ∉ fp := fun b u e z => by rw [(hf b z).1] at e; cases e
 refine I.step (g' := s.gens) (d' := s.drawn) (ch := fp) (fun b hb => ?_) (fun b o _ _ hc e _ => k b o hc e) (fun b o _ _ hc e _ => ⟨o.slots, k b o hc e⟩) (fun _ _ _ _ n => n) (fun b o hc e => ⟨o, k b o hc e⟩)
  (fun _ _ e => e) (fun _ _ _ e => e) (fun b ps e => ⟨#[], by simpa using e⟩) (fun m hm => ?_) (fun b u e => ?_) I.bare
 · obtain ⟨_, f1, _, f3, f4, f5⟩ := hf b hb
   exact ⟨f3, f1, f4, f5⟩
 · obtain ⟨o, es, ep, ho, r⟩ := hm
   exact ⟨o, es, ep, k _ o (fun z => (hf _ z).2.1 rfl) ho, r⟩
 · refine (I.hok b u e).stay (fun c v hc q => k c v ?_ q) (fun _ q => q) fun _ _ q => q
   rcases hc with z | z
   · rw [z]; exact nf b _ e
   · exact nf c _ z
end
def Ite (Sq : Hp -> List V -> Prop) : It :=
 ⟨fun i H => ∃ xs x, Sq H xs /\ xs[i]? = some x, fun i H v H' => ∃ p x, H p = none /\ v = .ref p /\ H' = upd H p (.tup [.int i, x]) /\ ∀ xs, Sq H xs -> xs[i]? = some x, fun i H => ∃ xs, Sq H xs /\ xs.length = i⟩
def tnE (e it : Addr) (It : Heap -> Nat -> Prop) (i : Nat) (h : Heap) : Prop := (∃ old, IsEnum h e it i old) /\ It h i
section
variable {P : Program} {w : World} {K : PySem.W.Frag} {elts : List Expr} {x1 : Nat} {tpos : Pos}
theorem wF {e it a : Addr} {Sq : Hp -> List V -> Prop} {It : Heap -> Nat -> Prop} (hei : e ≠ it)
 (hobj : ∀ h i, It h i -> ∃ o vs, h.get? it = some o /\ o.data = .fields vs) (hkeep : ∀ h h' i, It h i -> (∀ o, h.get? it = some o -> h'.get? it = some o) -> It h' i)
 (hinj : ∀ (X : Cx), X.K = K -> ∀ pins σ H s, Inv X pins σ H s -> ∀ xs ys, Sq H xs -> Sq H ys -> xs = ys)
 (draw : ∀ (X : Cx), X.prog = P -> X.w = w -> X.K = K -> X.calm = true -> ∀ pins σ H s, Inv X pins σ H s -> ∀ xs, Sq H xs -> (∃ o vs, s.heap.get? it = some o /\ o.data = .fields vs) -> (∃ o vs, s.heap.get? e = some o /\ o.data = .fields vs) -> ∃ (its : List Value) (fp : List Addr) (S : Nat -> Heap -> Prop), Vals xs its /\ e ∉ fp /\
  Draws P w X.A.in1 it fp its.length (fun i v => its[i]? = some v) S /\ (∀ i, It s.heap i -> S i s.heap) /\ ∀ i h, S i h -> It h i) :
 Turn P w K (.Tuple elts x1 tpos) (Ite Sq) [e, it] e (tnE e it It) where
 mem := by simp
 obj := fun i h st b hb => by
  obtain ⟨⟨old, h1⟩, h2⟩ := st
  rcases List.mem_cons.mp hb with rfl | hb
  · exact ⟨_, h1, fun v z => by cases z⟩
  · obtain ⟨o, vs, q1, q2⟩ := hobj _ _ h2
    rw [List.mem_singleton.mp hb]
    exact ⟨o, q1, fun v z => by rw [q2] at z; cases z⟩
 keep := fun i h h' st k => by
  obtain ⟨⟨old, h1⟩, h2⟩ := st
  exact ⟨⟨old, k e (by simp) _ h1⟩, hkeep _ _ _ h2 fun o q => k it (by simp) o q⟩
 item := by
  intro X hP hw hK hc i pins s σ H E I hf st hg
  obtain ⟨xs, x, hq, hx⟩ := hg
  obtain ⟨⟨old, he⟩, hit⟩ := st
  obtain ⟨its, fp, S, rv, hef, D, s1, s2⟩ := draw X hP hw hK hc pins σ H s I xs hq (hobj _ _ hit) ⟨_, _, he, rfl⟩
  subst hP hw hK
  obtain ⟨u, hu, ru⟩ := rv.get hx
  have hlt : i < its.length := (List.getElem?_eq_some_iff.mp hu).1
  refine wpAny_pyNext_enum_itemD D he (s1 _ hit) hlt hei hef fun v h1 tk hv ho st1 ht hsz hk => ⟨_, rfl, ?_⟩
  rw [hu] at hv; cases hv
  refine wpAny_letOwnedTupleGo_enum ho fun h2 he2 sb => ?_
  have ne : s.heap.objs.size ≠ e := Nat.ne_of_gt (Heap.lt_size he)
  have ht2 : h2.get? s.heap.objs.size = some { cls := .type "tuple", data := .seq #[.int i tk, u] } := (sb.2 _ ne).trans ht
  have I2 : Inv X pins σ (upd H s.heap.objs.size (.tup [.int i, x])) { s with heap := h2, toks := tk + 1 } := by
   refine I.turnLay hf (fun b o hb q => (sb.2 b fun z => hb (by simp [z])).trans (hk b o (fun z => hb (by simp [z])) (fun z => hb (by simp [z])) q)) (Nat.le_refl _) ⟨by show 2 <= sizeLine; rw [sizeLine_eq]; decide, [.int i tk, u], .cons ⟨tk, rfl⟩ (.cons ru .nil), ⟨_, ht2, rfl, _, rfl⟩⟩
  refine ⟨.ref s.heap.objs.size, _, I2, rfl, ⟨_, x, I.hok.fresh (Nat.le_refl _), rfl, rfl, fun ys hy => by rw [hinj X rfl _ _ _ _ I ys xs hy hq]; exact hx⟩, ⟨⟨_, by have := he2; push_cast; exact this⟩, ?_⟩, fun b hb => ?_⟩
  · exact hkeep _ _ _ (s2 _ _ st1) fun o q => (sb.2 it (Ne.symm hei)).trans q
  · have hb0 := (hf b hb).1
    rw [aI (fun z => ?_)]
    · exact hb0
    · subst z
      rcases List.mem_cons.mp hb with q | q
      · exact ne q
      · obtain ⟨o, vs, q1, _⟩ := hobj _ _ hit
        rw [<- List.mem_singleton.mp q] at q1
        exact absurd (Heap.lt_size q1) (Nat.lt_irrefl _)
 done := by
  intro X hP hw hK hc i pins s σ H E I hf st hg
  obtain ⟨xs, hq, hx⟩ := hg
  obtain ⟨⟨old, he⟩, hit⟩ := st
  obtain ⟨its, fp, S, rv, hef, D, s1, s2⟩ := draw X hP hw hK hc pins σ H s I xs hq (hobj _ _ hit) ⟨_, _, he, rfl⟩
  subst hP hw hK
  have hl := rv.length
  rw [hl] at hx
  subst hx
  exact wpAny_pyNext_enum_endD D he (s1 _ hit) fun h1 hx => ⟨rfl, I.turnF (t' := s.toks) hf fun b o hb q => hx b o (fun z => hb (by simp [z])) q⟩
 self := fun A i s Q E st h => by
  obtain ⟨⟨old, he⟩, _⟩ := st
  exact wpAny_pyIter_enum he h
theorem CY {e it a : Addr} (hei : e ≠ it) : Turn P w K (.Tuple elts x1 tpos) (Ite fun H xs => SqL K H a xs) [e, it] e (tnE e it fun h i => h.IsListIter it a i) := by
 refine wF (a := a) hei (fun h i st => ?_) (fun h h' i st k => st.at k) (fun X hK pins σ H s I xs ys h1 h2 => ?_) fun X hP hw hK hc pins σ H s I xs hq hi he => ?_
 · obtain ⟨o, q, _, d⟩ := st
   exact ⟨o, _, q, d⟩
 · subst hK; exact I.list_inj h1 h2
 · subst hP hw hK
   obtain ⟨its, rv, p, hz⟩ := I.list hq
   have ne : ∀ b, (∃ o vs, s.heap.get? b = some o /\ o.data = .fields vs) -> a ≠ b := fun b ⟨o, vs, q, d⟩ z => by
    subst z
    obtain ⟨o', q', _, n, d'⟩ := p.isList
    rw [q] at q'; cases q'
    rw [d] at d'; cases d'
   refine ⟨its, [it, a], fun i h => h.IsListIter it a i /\ h.IsList a its.toArray, rv, ?_, ?_, fun i st => ⟨st, p.isList⟩, fun i h st => st.1⟩
   · intro z
     rcases List.mem_cons.mp z with z | z
     · exact hei z
     · exact ne e he (List.mem_singleton.mp z).symm
   · have := Draws.list (prog := X.prog) (w := X.w) (A := X.A.in1) (I.ok.hd hc) it a (ne it hi) its.toArray
     simpa using this
theorem CJ {e it a : Addr} (hei : e ≠ it) : Turn P w K (.Tuple elts x1 tpos) (Ite fun H xs => SqT K H a xs) [e, it] e (tnE e it fun h i => h.IsTupleIter it a i) := by
 refine wF (a := a) hei (fun h i st => ?_) (fun h h' i st k => st.at k) (fun X hK pins σ H s I xs ys h1 h2 => ?_) fun X hP hw hK hc pins σ H s I xs hq hi he => ?_
 · obtain ⟨o, q, _, d⟩ := st
   exact ⟨o, _, q, d⟩
 · subst hK; exact I.tuple_inj h1 h2
 · subst hP hw hK
   obtain ⟨its, rv, p, hz⟩ := I.tuple hq
   have pt : s.heap.IsTuple a its.toArray := p
   have ne : ∀ b, (∃ o vs, s.heap.get? b = some o /\ o.data = .fields vs) -> a ≠ b := fun b ⟨o, vs, q, d⟩ z => by
    subst z
    obtain ⟨o', q', _, n, d'⟩ := pt
    rw [q] at q'; cases q'
    rw [d] at d'; cases d'
   refine ⟨its, [it, a], fun i h => h.IsTupleIter it a i /\ h.IsTuple a its.toArray, rv, ?_, ?_, fun i st => ⟨st, pt⟩, fun i h st => st.1⟩
   · intro z
     rcases List.mem_cons.mp z with z | z
     · exact hei z
     · exact ne e he (List.mem_singleton.mp z).symm
   · have := GP (prog := X.prog) (w := X.w) (A := X.A.in1) (I.ok.hd hc) it a (ne it hi) its.toArray
     simpa using this
end
section
variable {X : Cx} {elts : List Expr} {x1 : Nat} {tpos : Pos}
def VN (K : PySem.W.Frag) (ta : TA) : TI := fun σ H R => ta σ H fun vs H1 => ∃ a, vs = [.ref a] /\ ((∃ xs, SqL K H1 a xs /\ R (Ite fun H xs => SqL K H a xs) H1) \/ (∃ xs, SqT K H1 a xs /\ R (Ite fun H xs => SqT K H a xs) H1))
theorem QE {a : Expr} {ta : TA} {p pos : Pos} (hg : Gl X "enumerate") (hm : X.mg "enumerate" = none) (ha : PA X [a] ta) (hs : starEach [a] X.env = [(false, eval a X.env)] := by rfl) : PI X (.Tuple elts x1 tpos) (.Call (.Name "enumerate" p) [a] [] pos) (VN X.K ta) := by
 intro pins s σ H R I h
 refine Call_ (nO I hg hm boot_enumerate (PyProof.Rows.callWith_type1 (thn (ha pos pins s σ H _ I h) fun us s1 ⟨vs, H1, I1, r1, q1⟩ => ?_) hs rfl))
 obtain ⟨l, e, q⟩ := q1
 subst e
 cases r1 with
 | cons r rr =>
  cases rr
  cases (show _ = Value.ref l from r)
  have fp : ∀ b ∈ [s1.heap.objs.size + 1, s1.heap.objs.size], mS X pins H1 b := fun b hb => by
   rcases List.mem_cons.mp hb with rfl | hb
   · exact I1.fpOk (Nat.le_succ _) (I1.hok.fresh (Nat.le_succ _))
   · rw [List.mem_singleton.mp hb]; exact I1.fpOk (Nat.le_refl _) (I1.hok.fresh (Nat.le_refl _))
  rcases q with ⟨xs, hq, q⟩ | ⟨xs, hq, q⟩
  · obtain ⟨its, rv, p, hz⟩ := I1.list hq
    refine call_enumerate_list p.isList fun h' he hit hsz hk => ?_
    refine wpAny_pyIter_enum he ?_
    exact ⟨_, _, _, _, H1, rfl, I1.kept (t' := s1.toks) hk, CY (a := l) (Nat.succ_ne_self _), ⟨⟨_, he⟩, hit⟩, fp, q⟩
  · obtain ⟨its, rv, p, hz⟩ := I1.tuple hq
    refine uZ (show s1.heap.IsTuple l its.toArray from p) fun h' he hit hsz hk => ?_
    refine wpAny_pyIter_enum he ?_
    exact ⟨_, _, _, _, H1, rfl, I1.kept (t' := s1.toks) hk, CJ (a := l) (Nat.succ_ne_self _), ⟨⟨_, he⟩, hit⟩, fp, q⟩
end
def vI (ds : List PyData) : List CD := ds.zipIdx.map fun p => .d (.tuple [.int (p.2 : Nat), p.1])
def qW (f : AF) : AF := fun γ M => (f γ M).bind fun r => match r.1 with
 | [.d x] => (aY x).bind fun ds => some (vI ds, r.2)
 | _ => none
theorem FR {ds : List PyData} {i : Nat} {x : CD} (h : (vI ds)[i]? = some x) : ∃ d, ds[i]? = some d /\ x = .d (.tuple [.int (i : Nat), d]) := by
 unfold vI at h
 rw [List.getElem?_map, List.getElem?_zipIdx] at h
 cases e : ds[i]? with
 | none => rw [e] at h; cases h
 | some d =>
  rw [e] at h
  exact ⟨d, rfl, by simpa using h.symm⟩
theorem UI {K : PySem.W.Frag} {tA : TA} {fa : AF} (b : SA K tA fa) : SI K (VN K tA) (qW fa) := by
 intro γ M xs M' hh W H σ R G Rs k
 obtain ⟨⟨ys, M1⟩, h1, hh⟩ := aH hh
 refine b _ _ _ _ h1 W H σ _ G Rs fun vs W1 H1 e1 G1 r1 => ?_
 revert hh
 dsimp only
 split
 · rename_i y
   intro hh
   obtain ⟨ds, h2, hh⟩ := aH hh
   cases hh
   cases r1 with
   | cons r r' =>
    cases r'
    obtain ⟨p, us, rfl, hs, hr⟩ := mM (show Rep K W1.F y _ from r) h2
    have gv : ∀ Sq : Hp -> List V -> Prop, (∀ W2 M2 H2, W1.Ext W2 -> Good K W2 M2 H2 -> Sq H2 us) -> BN K (Ite Sq) (vI ds) W1 := fun Sq hS W2 M2 H2 e2 G2 => by
     have hq := hS W2 M2 H2 e2 G2
     refine ⟨fun i x hx => ?_, us, hq, by rw [show (vI ds).length = ds.length by simp [vI], hr.length]⟩
     obtain ⟨d, hd, rfl⟩ := FR hx
     obtain ⟨u, hu, ru⟩ := Paired.get (mF hr) (show (ds.map CD.d)[i]? = some (.d d) by rw [List.getElem?_map, hd]; rfl)
     refine ⟨⟨us, u, hq, hu⟩, fun v H3 hy => ?_⟩
     obtain ⟨p', x', hn, rfl, rfl, hx'⟩ := hy
     have := hx' us hq
     rw [hu] at this; cases this
     obtain ⟨e3, G3⟩ := G2.lay (o := .tup [.int i, u]) hn
     refine ⟨_, e3, G3, ⟨p', _, rfl, SqT.of aT, ?_⟩⟩
     exact ⟨_, _, rfl, rfl, _, _, rfl, Rep.same e3.ff _ _ (show Rep K W2.F d u from (ru.up e2)), rfl⟩
    refine ⟨p, rfl, ?_⟩
    rcases hs with hs | hs
    · exact .inl ⟨us, G1.fh.seq hs, k _ W1 H1 e1 G1 (gv _ fun W2 M2 H2 e2 G2 => G2.fh.seq (e2.ff.seq hs))⟩
    · exact .inr ⟨us, G1.fh.seqT hs, k _ W1 H1 e1 G1 (gv _ fun W2 M2 H2 e2 G2 => G2.fh.seqT (e2.ff.seqT hs))⟩
 · intro hh; cases hh
theorem EH {ι : Type} {K : PySem.W.Frag} {X : ι -> Cx} {a : Expr} {fa : AF} {pos : Pos} {elts : List Expr} {x1 : Nat} {tpos p : Pos} (hK : ∀ i, (X i).K = K) (hm : ∀ i, (X i).mg "enumerate" = none) (x : MA K X [a] fa) (hg : ∀ i, Gl (X i) "enumerate" := by intro _; rfl) : MI K X (.Tuple elts x1 tpos) (.Call (.Name "enumerate" p) [a] [] pos) (qW fa) := by
 obtain ⟨t, x1', x2⟩ := x.ex
 exact ⟨_, fun i => by have := QE (elts := elts) (x1 := x1) (tpos := tpos) (p := p) (pos := pos) (hg i) (hm i) (x1' i) (x.st.1 _); rw [hK i] at this; exact this, UI x2⟩
end L2
end
section
set_option Elab.async false
set_option linter.all false
set_option maxRecDepth 100000
set_option maxHeartbeats 4000000
namespace PySem
open PySem.Calls PyProof.Rows
abbrev nP (x : Value) (f : Bool) (d : Addr) (i n ep : Nat) (p q : Value) : Obj :=
 { cls := .type "dict_itemiterator", dict := none, data := .fields #[x, .bool f, .ref d, .int i 0, .int n 0, .int ep 0, p, q], slots := #[] }
abbrev duo (e : DictEntry) : Obj := { cls := .type "tuple", data := .seq #[e.key, e.val] }
def vR (h : Heap) (it d : Addr) (i n ep : Nat) : Prop :=
 ∃ x f p q, h.get? it = some (nP x f d i n ep p q) /\ (x = .none \/ ∃ a o, x = rawInt (a : Nat) /\ h.get? a = some o)
def Raw (h : Heap) (d : Addr) (es : Array DictEntry) (ep : Nat) : Prop := ∃ o, h.get? d = some o /\ o.data = .dict es ep
theorem Raw.to {h h' : Heap} {d : Addr} {es : Array DictEntry} {ep : Nat} (r : Raw h d es ep) (k : ∀ o, h.get? d = some o -> h'.get? d = some o) : Raw h' d es ep := let ⟨o, e, x⟩ := r; ⟨o, k o e, x⟩
section
variable {prog : Program} {w : World} {A : Around} {E : Value -> Shared -> Prop} {s : Shared} {it d v : Addr} {es : Array DictEntry} {i n ep : Nat}
theorem CB (d : Addr) (hd : (d == sysModules) = false) : MeetsIn prog w (Builtin.«dict.items» ⟨[.ref d], []⟩) fun _ R s => s.TypeIs (.ref d) "dict" /\
 R (.ok (.ret (.ref s.heap.objs.size))) { s with heap := s.heap.push { cls := .type "dict_items", data := .fields #[.ref d] } } :=
 .of_wp fun A R s ⟨ty, h⟩ => by
  have q : Builtin.Dict.showsAll d = pure () := by unfold Builtin.Dict.showsAll; rw [hd]; rfl
  show wpAny _ _ (Builtin.Dict.noArgs _ _ >>= fun _ => _) _ _ s
  unfold Builtin.Dict.noArgs
  refine wpAny_bind (wpAny_bind (wpAny_notOrdered_dict ty (wpAny_pure (?_ : wpAny _ _ (Builtin.Dict.showsAll d >>= _) _ _ s))))
  rw [q]
  exact wpAny_bind (wpAny_pure (wpAny_bind (wpAny_newObj_type (wpAny_pure ⟨_, rfl, h⟩))))
theorem DB {Q : Value -> Shared -> Prop} (hv : s.heap.IsItemsView v d) (r : Raw s.heap d es ep)
 (h : Q (.ref s.heap.objs.size) { s with heap := s.heap.push (nP .none false d 0 es.size ep .none .none) }) : wpAny (model prog w) A (pyIter (.ref v)) Q E s := by
 obtain ⟨ov, v1, v2, v3⟩ := id hv
 obtain ⟨o, r1, r2⟩ := r
 refine wpAny_pyIter_slot hv.typeIs F.slot_dict_items_iter (wpAny_call_entry F.slot_dict_items_iter hv.typeIs F.entry_dict_items_iter (wpAny_bind (wpAny_pure (wpAny_bind (?_ : wpAny _ _ (field (.ref v) 0 >>= _) _ _ s)))) (F.args_dict_items_iter_1 _))
 refine wpAny_bind (wpAny_field v1 v3 (x := .ref d) rfl (wpAny_pure (wpAny_bind (?_ : wpAny _ _ (Builtin.Dict_items.newIterator _ d) _ _ s))))
 refine wpAny_bind (wpAny_dictEntries r1 r2 (wpAny_bind (wpAny_dictEpoch r1 r2 ?_)))
 rw [show Builtin.Dict_items.ownsTuple "dict_itemiterator" = true from by decide]
 refine wpAny_newObj_type (wpAny_pure ⟨_, rfl, _, _, ⟨_, Heap.get?_push_size _ rfl, rfl⟩, F.slot_dict_itemiterator_next.lookup, ?_⟩) (by simp [sizeOk, Builtin.Dict_items.ownedTupleFields, sizeLine_eq])
 exact h
theorem LK {e : DictEntry} {Q : Value -> Shared -> Prop} (st : vR s.heap it d i n ep)
 (h : ∀ h', vR h' it d i n ep -> h'.get? s.heap.objs.size = some (duo e) -> (∀ b o, b ≠ it -> s.heap.get? b = some o -> h'.get? b = some o) -> Q (.ref s.heap.objs.size) { s with heap := h' }) :
 wpAny (model prog w) A (Builtin.Dict_items.pairFromOwner (.ref it) 6 e.key e.val) Q E s := by
 obtain ⟨H, g, dr, tk, os⟩ := s
 obtain ⟨x, f, p, q, w0, hx⟩ := st
 have lt : it < H.objs.size := Heap.lt_size w0
 have new : (H.push (duo e)).get? H.objs.size = some (duo e) := Heap.get?_push_size _ rfl
 have old : ∀ b o, H.get? b = some o -> (H.push (duo e)).get? b = some o := fun b o => Heap.get?_push_of_some _
 refine wpAny_bind (wpAny_newTuple ?_)
 show wpAny _ _ (Builtin.Dict_items.ownedTupleIsFree (.ref it) >>= _) _ _ ⟨H.push (duo e), g, dr, tk, os⟩
 generalize H.push (duo e) = G at new old ⊢
 have w1 := old it _ w0
 have fin : ∀ h' x' f' p' q', h'.get? it = some (nP x' f' d i n ep p' q') -> (x' = .none \/ ∃ a o, x' = rawInt (a : Nat) /\ G.get? a = some o) -> Heap.SameBut it G h' -> Q (.ref H.objs.size) ⟨h', g, dr, tk, os⟩ := by
  intro h' x' f' p' q' k1 k2 k3
  refine h h' ⟨x', f', p', q', k1, k2.imp id ?_⟩ (k3.extBut _ _ (Nat.ne_of_gt lt) new) fun b o nb e => k3.extBut b o nb (old b o e)
  rintro ⟨a, o, ea, eo⟩
  by_cases c : a = it
  · exact ⟨a, _, ea, c ▸ k1⟩
  · exact ⟨a, o, ea, k3.extBut a o c eo⟩
 unfold Builtin.Dict_items.ownedTupleIsFree
 refine wpAny_bind (wpAny_bind (wpAny_field w1 rfl (x := x) rfl ?_))
 rcases hx with rfl | ⟨a, o, rfl, ea⟩
 · refine wpAny_pure (wpAny_bind (wpAny_field w1 rfl (x := p) rfl (wpAny_bind (wpAny_field w1 rfl (x := q) rfl (wpAny_bind (wpAny_setField_rec w1 (by simp) fun h1 w2 k2 => ?_))))))
   refine wpAny_bind (wpAny_setField_rec w2 (by simp) fun h2 w3 k3 => wpAny_bind (wpAny_setField_rec w3 (by simp) fun h3 w4 k4 => wpAny_bind (wpAny_setField_rec w4 (by simp) fun h4 w5 k5 => ?_)))
   exact wpAny_bind (wpAny_letGo (wpAny_pure (fin h4 _ _ _ _ w5 (.inr ⟨_, _, rfl, new⟩) (((k2.trans k3).trans k4).trans k5))))
 · have al : (loadIfAlive ((a : Int).toNat) : Sem (Option Obj)) = loadIfAlive a := by rw [Int.toNat_natCast]
   show wpAny _ _ (loadIfAlive ((a : Int).toNat) >>= _) _ _ _
   rw [al]
   refine wpAny_bind (W.kdx_alive (old a o ea) ?_)
   show wpAny _ _ (field (.ref it) 1 >>= _) _ _ _
   refine wpAny_bind (wpAny_field w1 rfl (x := .bool f) rfl ?_)
   cases f
   · exact wpAny_bind (wpAny_setField_rec w1 (by simp) fun h1 w2 k2 => wpAny_pure (wpAny_pure (fin h1 _ _ _ _ w2 (.inr ⟨a, o, rfl, old a o ea⟩) k2)))
   · exact wpAny_pure (wpAny_pure (fin G _ _ _ _ w1 (.inr ⟨a, o, rfl, old a o ea⟩) (Heap.SameBut.refl _ _)))
theorem CM {Q : Option Value -> Shared -> Prop} (hh : A.handled = none) (st : vR s.heap it d i es.size ep) (r : Raw s.heap d es ep) (ne : d ≠ it)
 (h1 : ∀ e, es[i]? = some e -> ∀ h', vR h' it d (i + 1) es.size ep -> h'.get? s.heap.objs.size = some (duo e) -> (∀ b o, b ≠ it -> s.heap.get? b = some o -> h'.get? b = some o) -> Q (some (.ref s.heap.objs.size)) { s with heap := h' })
 (h2 : es[i]? = none -> ∀ h', Heap.ExtBut it s.heap h' -> Q none { s with heap := h' }) : wpAny (model prog w) A (pyNext (.ref it)) Q E s := by
 obtain ⟨H, g, dr, tk, os⟩ := s
 obtain ⟨x, f, p, q, w0, hx⟩ := st
 obtain ⟨od, r1, r2⟩ := r
 have ty : Shared.TypeIs ⟨H, g, dr, tk, os⟩ (.ref it) "dict_itemiterator" := ⟨_, w0, rfl⟩
 have own : Builtin.Dict_items.ownsTuple "dict_itemiterator" = true := by decide
 unfold pyNext
 refine wpAny_bind (wpAny_attempt (wpAny_callSpecial?_slot ty F.slot_dict_itemiterator_next (wpAny_call_entry F.slot_dict_itemiterator_next ty F.entry_dict_itemiterator_next (wpAny_bind (wpAny_pure (wpAny_bind (wpAny_bind ?_)))) (F.args_dict_itemiterator_next_1 _))))
 refine wpAny_bind (wpAny_typeNameOfWhole_itemiter ty (wpAny_pure (wpAny_bind (wpAny_fieldsOf w0 rfl ?_))))
 rw [own]
 refine wpAny_bind (wpAny_pure (wpAny_bind (wpAny_dictEntries r1 r2 ?_)))
 rw [if_neg (by simp)]
 refine wpAny_bind (wpAny_pure (wpAny_bind (wpAny_dictEpoch r1 r2 ?_)))
 rw [if_neg (by simp)]
 refine wpAny_pure ?_
 have pl : (if (i : Int) < 0 then none else es[(i : Int).toNat]?) = es[i]? := by rw [if_neg (by omega), Int.toNat_natCast]
 simp only [pl]
 cases c : es[i]? with
 | some e =>
  refine wpAny_bind (wpAny_bind (wpAny_typeNameOfWhole_itemiter ty (wpAny_pure (wpAny_bind (wpAny_isOneOf_itemiter ty ?_)))))
  refine wpAny_bind (wpAny_setField_rec w0 (k := 3) (x := rawInt ((i : Int) + 1)) (by simp) fun h' w1 k1 => wpAny_bind (wpAny_holding ?_))
  have st1 : vR h' it d (i + 1) es.size ep := by
   refine ⟨x, f, p, q, w1, hx.imp id fun ⟨a, o, ea, eo⟩ => ?_⟩
   by_cases c : a = it
   · exact ⟨a, _, ea, c ▸ w1⟩
   · exact ⟨a, o, ea, k1.extBut a o c eo⟩
  have ty1 : Shared.TypeIs ⟨h', g, dr, tk, os⟩ (.ref it) "dict_itemiterator" := ⟨_, w1, rfl⟩
  refine wpAny_bind (wpAny_isOneOf_itemiter ty1 (wpAny_bind (wpAny_isOneOf_itemiter ty1 (LK (e := e) st1 fun h'' st2 t2 k2 => ?_))))
  have sz : h'.objs.size = H.objs.size := k1.1
  refine wpAny_pure ⟨_, rfl, wpAny_pure ?_⟩
  rw [sz] at t2 ⊢
  exact h1 e c h'' st2 t2 fun b o nb eb => k2 b o nb (k1.extBut b o nb eb)
 | none =>
  refine wpAny_bind (wpAny_bind (wpAny_typeNameOfWhole_itemiter ty (wpAny_pure (wpAny_bind (wpAny_setField w0 (i := 2) (x := .none) rfl (by simp) (wpAny_bind ?_))))))
  simp only [newExc, newTuple]
  refine wpAny_bind (wpAny_newObj_type (wpAny_bind (m := firstArgMember _ _) (wpAny_of_eq (a := Value.none) (by simp only [firstArgMember]; rfl) (wpAny_newObj_type ?_ (by size_fits)))) (by size_fits))
  simp only [raiseNew]
  refine wpAny_bind (wpAny_handled ?_)
  rw [show A.in1.handled = none from hh]
  refine wpAny_bind (wpAny_pure (wpAny_throw ?_))
  refine wpAny_bind (wpAny_isInstance (b := true) (T := "StopIteration") ⟨_, Heap.get?_push_size _ rfl, rfl⟩ isSubtype_stop ?_)
  exact wpAny_pure (h2 c _ (((Heap.SameBut.update ..).extBut.push _).push _))
end
structure Handed (es : Array DictEntry) (lo : Addr) (h : Heap) (as : List Addr) : Prop where
 rise : as.Pairwise (· < ·)
 above : ∀ a ∈ as, lo < a
 duos : ∀ (j : Nat) (a : Addr), as[j]? = some a -> ∃ e, es[j]? = some e /\ h.get? a = some (duo e)
theorem Handed.to {es : Array DictEntry} {lo lo' : Addr} {h h' : Heap} {as : List Addr} (g : Handed es lo h as) (l : lo' <= lo) (k : ∀ a o, lo < a -> h.get? a = some o -> h'.get? a = some o) : Handed es lo' h' as :=
 ⟨g.rise, fun a ha => Nat.lt_of_le_of_lt l (g.above a ha), fun j a ha => let ⟨e, x, y⟩ := g.duos j a ha; ⟨e, x, k a _ (g.above a (List.mem_of_getElem? ha)) y⟩⟩
theorem Handed.more {es : Array DictEntry} {lo a : Addr} {h : Heap} {as : List Addr} {e : DictEntry} (g : Handed es lo h as) (up : ∀ b ∈ as, b < a) (hl : lo < a) (he : es[as.length]? = some e) (ha : h.get? a = some (duo e)) : Handed es lo h (as ++ [a]) := by
 refine ⟨List.pairwise_append.mpr ⟨g.rise, List.pairwise_singleton _ _, fun b hb c hc => by rw [List.mem_singleton.mp hc]; exact up b hb⟩, fun b hb => ?_, fun j b hj => ?_⟩
 · exact (List.mem_append.mp hb).elim (g.above b) fun q => List.mem_singleton.mp q ▸ hl
 · rw [List.getElem?_append] at hj
   split at hj
   · exact g.duos j b hj
   · have z : j - as.length = 0 := by
      have := (List.getElem?_eq_some_iff.mp hj).1
      simp at this; omega
     rw [z] at hj
     cases hj
     exact ⟨e, by rw [show j = as.length by omega]; exact he, ha⟩
abbrev rowOf (acc : Array Value) (c : Nat) : Obj := { cls := .type "list", dict := none, data := .seq acc c, slots := #[] }
section
variable {prog : Program} {w : World} {A : Around} {E : Value -> Shared -> Prop} {s : Shared} {S I d v : Addr} {es : Array DictEntry} {ep : Nat} {R : Result -> Shared -> Prop} {res : Value}
theorem sV (hh : A.handled = none) (hI : S < I) (dS : d ≠ S) (dI : d ≠ I) (hn : es.size <= sizeLine) :
 ∀ (m i : Nat) (h : Heap) (tk c : Nat) (acc : Array Value) (as : List Addr), i + m = es.size -> vR h I d i es.size ep -> Raw h d es ep -> h.get? S = some (rowOf acc c) -> acc.toList = as.map Value.ref -> as.length = i -> Handed es I h as -> I < h.objs.size ->
  (∀ h' tk acc c as, (∀ b o, b ≠ S -> b ≠ I -> h.get? b = some o -> h'.get? b = some o) -> h'.get? S = some (rowOf acc c) -> as.length = es.size -> Handed es I h' as -> acc.toList = as.map Value.ref -> R (.ok (.ret res)) { s with heap := h', toks := tk }) ->
  codeAny (model prog w) A (.builtin "list.extend.loop" ⟨[.ref S, .ref I, res], []⟩) R { s with heap := h, toks := tk }
 | m, i, h, tk, c, acc, as, em, st, r, hS, ea, el, hG, lI, fin => by
  have nS : S ≠ I := Nat.ne_of_lt hI
  refine codeAny_builtin PySem.F.entry_extend_loop ?_
  rw [Around.under_plainId PySem.F.plain_extend_loop _]
  refine wpAny_bind (CM (A := A.in1) (s := { s with heap := h, toks := tk }) hh st r dI (fun e he h1 st1 t1 k1 => ?_) fun he h1 k1 => ?_)
  · have mi : i < es.size := (Array.getElem?_eq_some_iff.mp he).1
    have za : acc.size = i := by rw [<- Array.length_toList, ea, List.length_map, el]
    have lS : S < h.objs.size := Heap.lt_size hS
    have hS1 := k1 S _ nS hS
    have sv : ∀ b o, b ≠ S -> h1.get? b = some o -> (h1.update S (Obj.mapSeq (·.push (Value.ref h.objs.size)))).get? b = some o := fun b o nb e => (Heap.get?_update_other _ _ (Ne.symm nb)).trans e
    have hS2 := Heap.get?_update_self (Obj.mapSeq (·.push (Value.ref h.objs.size))) hS1 rfl
    have tp := sv _ _ (Nat.ne_of_gt lS) t1
    refine wpAny_bind (wpAny_updateSeq (f := (·.push (Value.ref h.objs.size))) hS1 rfl (wpAny_pure ⟨plainId_quiet PySem.F.plain_extend_loop _, ?_⟩) (by rw [za]; omega) (by show (acc.push _).size <= _; rw [Array.size_push, za]; omega))
    refine sV hh hI dS dI hn (m - 1) (i + 1) _ tk _ (acc.push (Value.ref h.objs.size)) (as ++ [h.objs.size]) (by omega) ?_ (r.to fun o e => sv d o dS (k1 d o dI e)) hS2 (by rw [Array.toList_push, ea, List.map_append]; rfl) (by rw [List.length_append, el]; rfl)
     ((hG.to (Nat.le_refl _) fun a o la e => sv a o (Nat.ne_of_gt (Nat.lt_trans hI la)) (k1 a o (Nat.ne_of_gt la) e)).more (fun b hb => ?_) lI (by rw [el]; exact he) tp) (Nat.lt_trans lI (Heap.lt_size tp))
     fun h' tk' acc' c' as' k => fin h' tk' acc' c' as' fun b o b1 b2 e => k b o b1 b2 (sv b o b1 (k1 b o b2 e))
    · obtain ⟨x, f, p, q, w1, hx⟩ := st1
      refine ⟨x, f, p, q, sv _ _ (Ne.symm nS) w1, hx.imp id fun ⟨a, o, e1, e2⟩ => ?_⟩
      by_cases q : a = S
      · subst q; exact ⟨a, _, e1, hS2⟩
      · exact ⟨a, o, e1, sv a o q e2⟩
    · obtain ⟨j, hj⟩ := List.mem_iff_getElem?.mp hb
      obtain ⟨_, _, y⟩ := hG.duos j b hj
      exact Heap.lt_size y
  · have mi : es.size <= i := Array.getElem?_eq_none_iff.mp he
    exact wpAny_pure (fin h1 tk acc c as (fun b o _ b2 e => k1 b o b2 e) (k1 S _ nS hS) (by omega) (hG.to (Nat.le_refl _) fun a o la e => k1 a o (Nat.ne_of_gt la) e) ea)
 termination_by m => m
theorem FT {Q : List Value -> Shared -> Prop} (hh : A.handled = none) (hv : s.heap.IsItemsView v d) (r : Raw s.heap d es ep) (hn : es.size <= sizeLine)
 (hQ : ∀ (h' : Heap) (tk : Nat) (as : List Addr), (∀ b o, s.heap.get? b = some o -> h'.get? b = some o) -> as.length = es.size -> Handed es s.heap.objs.size h' as -> Q (as.map Value.ref) { s with heap := h', toks := tk }) :
 wpAny (model prog w) A (collect (.ref v)) Q E s := by
 obtain ⟨H, g, dr, tk, os⟩ := s
 have lv : v < H.objs.size := let ⟨_, ho, _⟩ := hv; Heap.lt_size ho
 have ld : d < H.objs.size := let ⟨_, ho, _⟩ := r; Heap.lt_size ho
 refine wpAny_bind (wpAny_runValue (codeAny_builtin entry_proto_collect' ?_))
 rw [Around.under_plainId PySem.F.plain_proto_collect _]
 refine wpAny_bind (m := newList []) (wpAny_newObj_type (wpAny_pure ⟨plainId_quiet PySem.F.plain_list_iadd _, codeAny_builtin entry_list_iadd' ?_⟩))
 rw [Around.under_plainId PySem.F.plain_list_iadd _]
 have p0 : ∀ b o, H.get? b = some o -> (H.push (rowOf #[] 0)).get? b = some o := fun b o e => Heap.get?_push_of_some _ e
 have r0 := (Heap.get?_push_size H (o := rowOf #[] 0) rfl)
 have z0 : (H.push (rowOf #[] 0)).objs.size = H.objs.size + 1 := Heap.size_push ..
 show wpAny _ A.in1 (Builtin.List.listExtendWith (.ref H.objs.size) (.ref v) (.ref H.objs.size)) _ _ ⟨H.push (rowOf #[] 0), g, dr, tk, os⟩
 generalize H.push (rowOf #[] 0) = G at p0 r0 z0 ⊢
 have lG : H.objs.size < G.objs.size := by rw [z0]; exact Nat.lt_succ_self _
 have hv1 : G.IsItemsView v d := let ⟨o, a, b⟩ := hv; ⟨o, p0 _ _ a, b⟩
 refine wpAny_bind (wpAny_typeOf (T := "dict_items") (hv1.typeIs (s := ⟨G, g, dr, tk, os⟩)) ?_)
 rw [show Builtin.List.listSameRef (.ref H.objs.size) (.ref v) = false from by simp [Builtin.List.listSameRef, Nat.ne_of_gt lv]]
 refine wpAny_bind (DB (s := ⟨G, g, dr, tk, os⟩) hv1 (r.to fun o e => p0 d o e) (wpAny_bind (wpAny_holding (W.kdx_hint (r := v) (let ⟨o, a, b, _⟩ := hv1; ⟨o, Heap.get?_push_of_some _ a, b⟩) ?_))))
 have p1 : ∀ b o, G.get? b = some o -> (G.push (nP .none false d 0 es.size ep .none .none)).get? b = some o := fun b o e => Heap.get?_push_of_some _ e
 have r1 := Heap.get?_push_size G (o := nP .none false d 0 es.size ep .none .none) rfl
 show wpAny _ _ _ _ _ ⟨G.push (nP .none false d 0 es.size ep .none .none), g, dr, tk, os⟩
 generalize G.push (nP .none false d 0 es.size ep .none .none) = F at p1 r1 ⊢
 have go : ∀ h c, (∀ b o, b ≠ H.objs.size -> F.get? b = some o -> h.get? b = some o) -> h.get? H.objs.size = some (rowOf #[] c) ->
  codeAny (model prog w) A (.builtin "list.extend.loop" ⟨[.ref H.objs.size, .ref G.objs.size, .ref H.objs.size], []⟩) (fun r s' => match r with | .ok (.ret v) => wpAny (model prog w) A (match v with | .ref a => load a >>= fun o => (match o.data with | .seq xs _ => pure xs.toList | _ => unsupported "internal:collect") | _ => unsupported "internal:collect") Q E s' | .ok _ => False | .error e => E e s') ⟨h, g, dr, tk, os⟩ := fun h c k hS =>
  sV (s := ⟨H, g, dr, tk, os⟩) (S := H.objs.size) (I := G.objs.size) hh lG (Nat.ne_of_lt ld) (Nat.ne_of_lt (Nat.lt_trans ld lG)) hn es.size 0 h tk c #[] [] (Nat.zero_add _) ⟨_, _, _, _, k _ _ (Nat.ne_of_gt lG) r1, .inl rfl⟩ (r.to fun o e => k _ _ (Nat.ne_of_lt ld) (p1 _ _ (p0 _ _ e))) hS rfl rfl
   ⟨.nil, (fun _ q => nomatch q), fun j a q => by simp at q⟩ (Heap.lt_size (k _ _ (Nat.ne_of_gt lG) r1)) fun h' tk' acc c as k' hS' el hG ea => wpAny_bind (wpAny_load hS' (wpAny_pure (by
    rw [ea]
    exact hQ h' tk' as (fun b o e => k' b o (Nat.ne_of_lt (Heap.lt_size e)) (Nat.ne_of_lt (Nat.lt_trans (Heap.lt_size e) lG)) (k b o (Nat.ne_of_lt (Heap.lt_size e)) (p1 b o (p0 b o e)))) el (hG.to (Nat.le_of_lt lG) fun _ _ _ e => e))))
 have q0 := p1 _ _ r0
 have q1 := Heap.get?_update_self (Obj.mapSeq (·.push Value.none)) q0 rfl
 refine wpAny_ite_split (fun _ => wpAny_bind (wpAny_rule (wpAny_bind (wpAny_bind (wpAny_updateSeq (f := (·.push Value.none)) q0 rfl (wpAny_updateSeq (hz := by seq_fits) q1 rfl (wpAny_pure ⟨plainId_quiet PySem.F.plain_extend_loop _, go _ _ (fun b o nb e => ?_) (Heap.get?_update_self (Obj.mapSeq (·.pop)) q1 rfl)⟩))))))) fun _ => wpAny_pure ⟨plainId_quiet PySem.F.plain_extend_loop _, go _ _ (fun _ _ _ e => e) q0⟩
 rw [Heap.get?_update_other _ _ (Ne.symm nb), Heap.get?_update_other _ _ (Ne.symm nb)]
 exact e
end
end PySem
end
section
set_option Elab.async false
set_option linter.all false
set_option maxRecDepth 100000
set_option maxHeartbeats 4000000
namespace PySem.W
open PySem PySem.Calls PyProof.Rows PyProof.V PySem.Spec
section
variable {prog : Program} {w : World} {A : Around} {E : Value -> Shared -> Prop} {s : Shared} {h₀ : Heap} {L : Addr} {m : Str -> Option Value} {news : List (Addr × Obj)} {vs : List Value}
theorem l2_tail {Q : Value -> Shared -> Prop} (F : Fr h₀ L s.heap m) (N : News h₀ L s.heap news) (h2 : 2 <= vs.length) (h64 : vs.length < 64)
 (h : ∀ D e1 h', Fr h₀ L h' m -> News h₀ L h' ((D, seqObj "list" #[] e1) :: news) -> (∀ q ∈ news, q.1 < D) ->
  wpAny (model prog w) A.in1 (keyKind' vs.toArray) (fun κ s' => (kas_sort vs.length).kasWp (kas_ask prog w A.in1 κ vs) (fun p s'' => KasFin h₀ L m D e1 (p.toList.map fun i => vs.getD i Value.none) (fun s3 => Q (.ref D) s3) s'') s') (fun _ _ => False) { s with heap := h' }) :
 wpAny (model prog w) A (do let l <- newList vs; let _ <- holding [l] (call (.builtin "list.sort") [l]); ret l) (fun fin s' => ∃ v, fin = .done (.ret v) /\ Q v s') E s := by
 refine wpAny_bind (wpAny_newList ?_ (by rw [sizeLine_eq]; omega))
 have hoL : (s.heap.push (seqObj "list" vs.toArray 0)).get? s.heap.objs.size = some (seqObj "list" vs.toArray 0) := Heap.get?_push_size _ rfl
 have keep : ∀ b o, s.heap.get? b = some o -> (s.heap.push (seqObj "list" vs.toArray 0)).get? b = some o := fun b o q => Heap.get?_push_of_some _ q
 have hL : L < s.heap.objs.size := F.ns.lt
 show wpAny _ _ _ _ _ { s with heap := s.heap.push (seqObj "list" vs.toArray 0) }
 refine wpAny_bind (wpAny_holding (wpAny_call_entry slot_list_sort ⟨_, hoL, rfl⟩ entry_list_sort ?body (args_list_sort _)))
 case body =>
  refine kat_list_sort (s := { s with heap := s.heap.push (seqObj "list" vs.toArray 0) }) (F.kept keep) (N.grown keep) hoL (Nat.ne_of_gt hL) (Heap.get?_none_of_le (Nat.le_trans F.above (Nat.le_of_lt hL)))
   (fun p hp => Nat.ne_of_lt (Heap.lt_size (N p hp).1)) h2 h64 fun e1 h' F' N' => ?_
  refine wpAny_mono (h _ e1 h' F' N' fun q hq => Heap.lt_size (N q hq).1) (fun κ s' hk => ?_) fun _ _ x => x
  rw [kat_ask_eq rfl] at hk ⊢
  exact kas_wp_mono hk fun p s'' hk' => hk'.mono fun s3 hq => ⟨_, rfl, wpAny_pure ⟨_, rfl, hq⟩⟩
end
end PySem.W
namespace L2
open PySem PySem.Spec PyProof.Rows
section
variable {X : Cx} {pins : List (Addr × Obj)} {σ : St} {H : Hp} {s : Shared} {E : Value -> Shared -> Prop}
def lX (its : List Value) : Sem PySem.Fin := do let l <- newList its; let _ <- holding [l] (call (.builtin "list.sort") [l]); ret l
def NN (K : PySem.W.Frag) (vs : List V) (H : Hp) (Q : VK) : Prop :=
 (∃ rows : List (List PyData), RepAll K H (rows.map .tuple) vs /\ 2 <= rows.length /\ rows.length < 64 /\ (∀ r ∈ rows, r.all SeqAt.shaped = true /\ hW r = true) /\ (kN rows = true \/ lW rows = true) /\ (∀ i j, i < rows.length -> j < rows.length -> (kT (rows.getD i []) (rows.getD j [])).isSome = true) /\
  ∀ l, H l = none -> Q (.ref l) (upd H l (.lst ((hX (oP rows) rows.length).map fun i => vs.getD i .non)))) \/ (vs.length < 2 /\ ∀ l, H l = none -> Q (.ref l) (upd H l (.lst vs)))
theorem WK {A : Around} {rows : List (List PyData)} {vs : List V} {its : List Value} {Q : VK} (hu : A.in1.units + 64 < cLine) (I : Inv X pins σ H s) (rv : Vals vs its) (hrep : RepAll X.K H (rows.map .tuple) vs) (h2 : 2 <= rows.length) (h64 : rows.length < 64)
 (hsh : ∀ r ∈ rows, r.all SeqAt.shaped = true /\ hW r = true) (hknd : kN rows = true \/ lW rows = true) (hlt : ∀ i j, i < rows.length -> j < rows.length -> (kT (rows.getD i []) (rows.getD j [])).isSome = true)
 (q : ∀ l, H l = none -> Q (.ref l) (upd H l (.lst ((hX (oP rows) rows.length).map fun i => vs.getD i .non)))) :
 wpAny (model X.prog X.w) A (lX its) (fun fin s' => ∃ v, fin = .done (.ret v) /\ ∃ x H', Inv X pins σ H' s' /\ RelV x v /\ Q x H') E s := by
 obtain ⟨as, hr⟩ := RepAll.reads I _ vs its hrep rv
 have hlen : its.length = rows.length := by rw [ReadsAll.len hr, List.length_map]
 obtain ⟨m, F⟩ := I.fr
 have N : News X.base X.env.locals s.heap (mJ X.base s.heap X.env.locals) := KO
 unfold lX
 refine PySem.W.l2_tail (Q := fun v s' => ∃ x H', Inv X pins σ H' s' /\ RelV x v /\ Q x H') F N (by omega) (by omega) fun D e1 h' F' N' hD => ?_
 have kp : ∀ (h1 : Heap), Fr X.base X.env.locals h1 m -> (∀ q ∈ mJ X.base s.heap X.env.locals, h1.get? q.1 = some q.2) -> ∀ b o, b ≠ X.env.locals -> s.heap.get? b = some o -> h1.get? b = some o := fun h1 G1 M1 b o hb e => by
  cases z : X.base.get? b with
  | some v =>
   have := I.bk b v z
   rw [e] at this; cases this
   exact G1.keep b _ z
  | none => exact M1 (b, o) (qX hb z e)
 have k' := kp h' F' (fun q hq => (N' q (List.mem_cons_of_mem _ hq)).1)
 have hsz : s.heap.get? D = none := by
  have hN := N' _ List.mem_cons_self
  cases e : s.heap.get? D with
  | none => rfl
  | some o => exact absurd (hD (D, o) (qX hN.2.1 hN.2.2 e)) (Nat.lt_irrefl _)
 have seqL : ∀ b o vs n, s.heap.get? b = some o -> o.data = .seq vs n -> b ≠ X.env.locals := fun b o vs n e d z => by
  obtain ⟨o', es, ep, x1, x2, _⟩ := F.ns
  subst z
  rw [e] at x1; cases x1
  rw [d] at x2; cases x2
 have onl : hW (rows.map .tuple) = true := by
  clear hrep hr hlen q hknd hlt h2 h64
  induction rows with
  | nil => rfl
  | cons x r ih =>
   show (hW x && hW (r.map .tuple)) = true
   rw [(hsh x List.mem_cons_self).2, ih fun y hy => hsh y (List.mem_cons_of_mem _ hy)]; rfl
 have hr' : ReadsAll h' its (rows.map .tuple) as := KU (fun b o vs n e d => k' b o (seqL b o vs n e d) e) _ _ _ onl hr
 refine GO (s := { s with heap := h' }) hr' (by omega) hknd ?_
 rw [hlen]
 refine KS.wp (lt := oP rows) (n := rows.length) (fun i j C hi hj c => ?_) (fun p hp' => ?_) ((DT (by omega)).ks (lt := oP rows))
 · have at_ : ∀ i, i < rows.length -> ∃ bs, Reads h' (its.getD i .none) (.tuple (rows.getD i [])) bs := fun i hi => by
    obtain ⟨bs, x⟩ := ReadsAll.at i hr' (by simpa using hi)
    have : (rows.map PyData.tuple).getD i .none = .tuple (rows.getD i []) := by
     rw [List.getD_eq_getElem?_getD, List.getElem?_map, List.getD_eq_getElem?_getD, List.getElem?_eq_getElem hi]; rfl
    rw [this] at x
    exact ⟨bs, x⟩
   obtain ⟨b1, r1⟩ := at_ i hi
   obtain ⟨b2, r2⟩ := at_ j hj
   have mem : ∀ i, i < rows.length -> rows.getD i [] ∈ rows := fun i hi => by
    rw [List.getD_eq_getElem?_getD, List.getElem?_eq_getElem hi]; exact List.getElem_mem hi
   have hd : kN rows = true -> ∀ r ∈ rows, r.head?.all isI = true := fun z r hr => by
    unfold kN at z
    have := List.all_eq_true.mp z r hr
    cases r with
    | nil => rfl
    | cons d ds => cases d <;> first | rfl | exact absurd this (by intro z; cases z)
   obtain ⟨c0, hc0⟩ := Option.isSome_iff_exists.mp (hlt i j hi hj)
   have hc : oP rows i j = c0 := by unfold oP; rw [hc0]; rfl
   rw [hc] at c
   exact aAJ (s := { s with heap := h' }) hu r1 r2 (hsh _ (mem i hi)).1 (hsh _ (mem j hj)).1 hc0 (fun z => ⟨hd z _ (mem i hi), hd z _ (mem j hj)⟩) c
 · obtain ⟨e, _⟩ := hp'
   subst e
   refine PySem.W.KasFin.intro F' N' (.head fun q hq => Nat.ne_of_lt (hD q hq)) fun h'' c F'' N'' => ?_
   have k'' := kp h'' F'' (fun q hq => (N'' q (List.mem_cons_of_mem _ hq)).1)
   refine ⟨.ref D, upd H D (.lst ((hX (oP rows) rows.length).map fun i => vs.getD i .non)), ?_, rfl, q D (I.hok.none hsz)⟩
   refine I.laidL k'' (fun m' hm' => ?_) hsz ⟨?_, _, c, vX rv _, (N'' _ List.mem_cons_self).1⟩
   · rw [<- TC F.ns hm']; exact F''.ns
   · rw [List.length_map, (lR (oP rows) (by omega)).length_eq, List.length_range]
     have : 64 <= sizeLine := by decide
     omega
theorem XE {A : Around} {vs : List V} {its : List Value} {Q : VK} (I : Inv X pins σ H s) (rv : Vals vs its) (h2 : vs.length < 2) (q : ∀ l, H l = none -> Q (.ref l) (upd H l (.lst vs))) :
 wpAny (model X.prog X.w) A (lX its) (fun fin s' => ∃ v, fin = .done (.ret v) /\ ∃ x H', Inv X pins σ H' s' /\ RelV x v /\ Q x H') E s := by
 have hl := rv.length
 have hz : its.length <= sizeLine := by rw [sizeLine_eq]; omega
 unfold lX
 refine wpAny_bind (wpAny_newList ?_ hz)
 refine wpAny_bind (wpAny_holding ?_)
 have gD : (s.heap.push { cls := .type "list", data := .seq its.toArray }).get? s.heap.objs.size = some (seqObj "list" its.toArray 0) := Heap.get?_push_size _ rfl
 refine wpAny_call_entry slot_list_sort ⟨_, gD, rfl⟩ entry_list_sort (rH gD (by omega) ⟨_, rfl, ?_⟩) (args_list_sort _)
 obtain ⟨c, gg⟩ : ∃ c, (sortedHeap (s.heap.push { cls := .type "list", data := .seq its.toArray }) s.heap.objs.size its its.toArray).get? s.heap.objs.size = some (seqObj "list" its.toArray c) := by
  unfold sortedHeap
  have g1 := get?_update_seq gD (fun _ => #[])
  have g2 := Heap.get?_push_of_some (seqObj "tuple" its.toArray 0) g1
  have g3 := Heap.get?_push_of_some (seqObj "list" #[] 0) g2
  exact ⟨_, get?_update_seq g3 (fun _ => its.toArray)⟩
 refine wpAny_pure ⟨_, rfl, .ref s.heap.objs.size, upd H s.heap.objs.size (.lst vs), I.laid (t' := s.toks) (fun b o e => ?_) (Nat.le_refl _) ⟨by omega, its, c, rv, gg⟩, rfl, q _ (I.hok.fresh (Nat.le_refl _))⟩
 · have hb : b ≠ s.heap.objs.size := Nat.ne_of_lt (Heap.lt_size e)
   unfold sortedHeap
   rw [Heap.get?_update_ne _ _ _ _ hb]
   refine Heap.get?_push_of_some _ (Heap.get?_push_of_some _ ?_)
   rw [Heap.get?_update_ne _ _ _ _ hb]
   exact Heap.get?_push_of_some _ e
theorem aAZ {A : Around} {vs : List V} {its : List Value} {Q : VK} (hu : A.in1.units + 64 < cLine) (I : Inv X pins σ H s) (rv : Vals vs its) (h : NN X.K vs H Q) :
 wpAny (model X.prog X.w) A (lX its) (fun fin s' => ∃ v, fin = .done (.ret v) /\ ∃ x H', Inv X pins σ H' s' /\ RelV x v /\ Q x H') E s := by
 rcases h with ⟨rows, a, b, c, d, e, f, g⟩ | ⟨a, b⟩
 · exact WK hu I rv a b c d e f g
 · exact XE I rv a b
def oV : List (V × V) -> Hp -> (List V -> Hp -> Prop) -> Prop
 | [], H, k => k [] H
 | (x, y) :: r, H, k => ∀ p, H p = none -> oV r (upd H p (.tup [x, y])) fun vs H2 => k (.ref p :: vs) H2
theorem Inv.trackT {e : Addr} {vs : List V} {its : List Value} {n : Nat} (I : Inv X pins σ H s) (he : s.heap.get? e = some { cls := .type "tuple", data := .seq its.toArray n }) (rv : Vals vs its) (hz : vs.length <= sizeLine) (hn : H e = none) (h0 : X.s₀.heap.get? e = none) (hp : ∀ p ∈ X.pn ++ pins, p.1 ≠ e) :
 Inv X pins σ (upd H e (.tup vs)) s := by
 have ne : ∀ b u, H b = some u -> b ≠ e := fun b u z => aN z hn
 have nd : ∀ b (o : Obj), s.heap.get? b = some o -> (∀ vs n, o.data ≠ .seq vs n) -> b ≠ e := fun b o q z w => by
  subst w; rw [he] at q; cases q; exact z _ _ rfl
 refine ⟨I.ok, I.os, I.bare, ⟨I.base.keep, I.base.slot, fun b o q n hx => ?_, I.base.there, fun b xs q => ?_, fun b o u q => ?_, fun b ps q => ?_⟩, I.loc, I.cell, ?_, fun x c q => ?_, fun p h => ?_, fun b u q => ?_, I.len⟩
 · rw [aI (fun z => by rw [z, h0] at q; cases q)]
   exact I.base.free b o q n hx
 · have := I.base.tups b xs q
   rw [aI (ne _ _ this)]; exact this
 · have := I.base.frzs b o u q
   rw [aI (ne _ _ this)]; exact this
 · obtain ⟨more, this⟩ := I.base.tbls b ps q
   exact ⟨more, by rw [aI (ne _ _ this)]; exact this⟩
 · obtain ⟨m, ⟨o, es, ep, ho, hd, _⟩, _⟩ := I.loc
   rw [aI (nd _ o ho fun vs n z => by rw [hd] at z; cases z)]
   exact I.free
 · obtain ⟨v, o, ho, hd⟩ := I.cell x c q
   rw [aI (nd _ o ho fun vs n z => by rw [hd] at z; cases z)]
   exact I.freeC x c q
 · obtain ⟨q1, q2, q3⟩ := I.pin p h
   exact ⟨q1, by rw [aI (hp p h)]; exact q2, q3⟩
 · by_cases hb : b = e
   · subst hb
     rw [aT] at q
     cases q
     exact ⟨hz, its, rv, ⟨_, he, rfl, n, rfl⟩⟩
   · rw [aI hb] at q
     exact (I.hok b u q).stay (fun _ _ _ z => z) (fun c z => by rw [aI (ne _ _ z)]; exact z) fun c xs z => by rw [aI (ne _ _ z)]; exact z
theorem DM : ∀ {ps : List (V × V)} {us : List (Value × Value)} {as : List Addr} {H : Hp} {k : List V -> Hp -> Prop}, Inv X pins σ H s -> Paired (fun p q => RelV p.1 q.1 /\ RelV p.2 q.2) ps us -> as.length = us.length -> as.Pairwise (· < ·) -> (∀ a ∈ as, H a = none) ->
 (∀ (j : Nat) (a : Addr), as[j]? = some a -> ∃ p, us[j]? = some p /\ s.heap.get? a = some { cls := .type "tuple", data := .seq #[p.1, p.2] }) -> (∀ a ∈ as, X.s₀.heap.get? a = none /\ ∀ p ∈ X.pn ++ pins, p.1 ≠ a) -> oV ps H k -> ∃ H2, Inv X pins σ H2 s /\ k (as.map .ref) H2
 | [], us, as, H, k, I, r, hl, _, _, _, _, h => by
  cases r
  have : as = [] := List.eq_nil_of_length_eq_zero hl
  subst this
  exact ⟨H, I, h⟩
 | (x, y) :: ps, us, as, H, k, I, r, hl, hp, hn, hg, h0, h => by
  cases r with
  | @cons _ q _ us' r1 r2 =>
   match as, hl, hp, hn, hg, h0 with
   | a :: as', hl, hp, hn, hg, h0 =>
    obtain ⟨p, e1, e2⟩ := hg 0 a rfl
    have e1 : some q = some p := e1
    cases e1
    obtain ⟨p1, p2⟩ := List.pairwise_cons.mp hp
    have I1 := I.trackT (e := a) (vs := [x, y]) (its := [q.1, q.2]) e2 (.cons r1.1 (.cons r1.2 .nil)) (by show 2 <= sizeLine; rw [sizeLine_eq]; decide) (hn a List.mem_cons_self) (h0 a List.mem_cons_self).1 (h0 a List.mem_cons_self).2
    have hl' : as'.length = us'.length := Nat.succ.inj hl
    obtain ⟨H2, I2, hk⟩ := DM (as := as') (k := fun vs H2 => k (.ref a :: vs) H2) I1 r2 hl' p2 (fun b hb => by rw [aI (Nat.ne_of_gt (p1 b hb))]; exact hn b (List.mem_cons_of_mem _ hb)) (fun j b hb => hg (j + 1) b hb) (fun b hb => h0 b (List.mem_cons_of_mem _ hb)) (h a (hn a List.mem_cons_self))
    exact ⟨H2, I2, hk⟩
def IS (K : PySem.W.Frag) (td : TE) : TE := fun σ H Q => td σ H fun x H1 => ∃ a kvs, x = .ref a /\ H1 a = some (.dT kvs) /\
 ∀ bs : List Addr, Paired (fun (b : Addr) (kv : List Key × V) => H1 b = some (.tup (kv.1.map kV))) bs kvs -> oV ((bs.zip kvs).map fun p => (.ref p.1, p.2.2)) H1 fun vs H2 => NN K vs H2 Q
end
section
variable {X : Cx} {o : Expr} {td : TE} {pos apos cpos p : Pos}
theorem KT.addrs {H : Hp} : ∀ {kvs : List (List Key × V)} {xs : List (List Key × Addr × Value)}, KT H kvs xs -> Paired (fun (b : Addr) (kv : List Key × V) => H b = some (.tup (kv.1.map kV))) (xs.map fun x => x.2.1) kvs /\
 Paired (fun (p : V × V) (q : Value × Value) => RelV p.1 q.1 /\ RelV p.2 q.2) (((xs.map fun x => x.2.1).zip kvs).map fun p => (V.ref p.1, p.2.2)) (xs.map fun x => (Value.ref x.2.1, x.2.2))
 | _, _, .nil => ⟨.nil, .nil⟩
 | _, _, .cons r1 r2 => ⟨.cons r1.2.1 (KT.addrs r2).1, .cons ⟨rfl, r1.2.2⟩ (KT.addrs r2).2⟩
theorem IV (hu : X.A.in1.in1.units + 64 < cLine) (hc : X.calm = true) (hg : Gl X "sorted") (hm : X.mg "sorted" = none) (ho : PE X o td) (hb : attributeBase o "items" X.env (eval o X.env) = eval o X.env) (hline : (apos.endLine == cpos.line) = true) :
 PE X (.Call (.Name "sorted" p) [.Call (.Attribute o "items" apos) [] [] cpos] [] pos) (IS X.K td) := by
 intro pins s σ H Q I h
 refine wpAny_Call_Name_kw (nO I hg hm boot_sorted ?_ (by decide) (by decide))
 refine PyProof.Rows.callWith_builtin1 ?_ rfl rfl
 show wpAny _ _ (spliced ((false, eval (.Call (.Attribute o "items" apos) [] [] cpos) X.env) :: [])) _ _ s
 refine Calls.spliced_cons ?_
 refine wpAny_Call_method (T := "dict") (id := "dict.items") hb rfl hline PySem.F.plainAttrs_dict PySem.F.slot_dict_items PySem.F.type_dict_items (thn (ho pins s σ H _ I h) fun u s1 ⟨x, H1, I1, rx, a, kvs, ex, ea, q⟩ => ?_)
 subst ex
 obtain rfl : u = Value.ref a := rx
 obtain ⟨z, hs, xs, r, od, es, ep, h1, h2, h3, h4, h5⟩ := (show ObjOk X.prog X.w H1 s1.heap a (.dT kvs) from I1.hok a _ ea)
 have hT : s1.TypeIs (.ref a) "dict" := ⟨od, h1, h2.1⟩
 refine ⟨hT, fun b e => by cases e; exact ⟨od, h1, h2.2.1⟩, ?_⟩
 show wpAny _ _ (callWith cpos (.builtin "dict.items") [.ref a] [] []) _ _ s1
 refine method_meetsIn PySem.F.slot_dict_items PySem.F.entry_dict_items rfl (PySem.evalArgs_none ⟨rfl, hT, PySem.F.args_dict_items_1 _, _, CB a hs, hT, ?_⟩)
 refine Calls.spliced_nil ?_
 have I2 : Inv X pins σ H1 { s1 with heap := s1.heap.push { cls := .type "dict_items", data := .fields #[.ref a] } } := I1.kept (t' := s1.toks) fun b o e => Heap.get?_push_of_some _ e
 have hv : (s1.heap.push { cls := .type "dict_items", data := .fields #[.ref a] }).IsItemsView s1.heap.objs.size a := ⟨_, Heap.get?_push_size _ rfl, rfl, rfl⟩
 have hat : Raw (s1.heap.push { cls := .type "dict_items", data := .fields #[.ref a] }) a es ep := ⟨od, Heap.get?_push_of_some _ h1, h3⟩
 have hzs : es.size = xs.length := by rw [<- Array.length_toList, h4, List.length_map]
 have hl : kvs.length = xs.length := Paired.len r
 refine Calls.call_function_entry kind_sorted plain_sorted entry_sorted (args_sorted1 _) ?_
 unfold Builtin.«sorted»
 refine wpAny_bind (m := checkCount "sorted" 1 1 _) (wpAny_pure ?_)
 refine wpAny_bind (FT (A := X.A.in1) (I.ok.hd hc) hv hat (by rw [hzs, <- hl]; exact z) fun h' tk as hk hal hG => ?_)
 have I3 : Inv X pins σ H1 { s1 with heap := h', toks := tk } := I2.kept hk
 obtain ⟨pk1, pk2⟩ := KT.addrs r
 have hge : ∀ b ∈ as, s1.heap.objs.size < b := fun b hb => Nat.lt_trans (show s1.heap.objs.size < (s1.heap.push { cls := .type "dict_items", data := .fields #[.ref a] }).objs.size by rw [Heap.size_push]; exact Nat.lt_succ_self _) (hG.above b hb)
 obtain ⟨H2, I4, hk2⟩ := DM (as := as) (s := { s1 with heap := h', toks := tk }) I3 pk2 (by rw [hal, hzs, List.length_map]) hG.rise (fun b hb => I1.hok.fresh (Nat.le_of_lt (hge b hb))) (fun j b hj => by
  obtain ⟨e, e1, e2⟩ := hG.duos j b hj
  refine ⟨(e.key, e.val), ?_, e2⟩
  rw [<- Array.getElem?_toList, h4, List.getElem?_map] at e1
  rw [List.getElem?_map]
  cases c : xs[j]? <;> rw [c] at e1 <;> cases e1
  rfl) (fun b hb => ⟨Heap.get?_none_of_le (Nat.le_trans I1.sz (Nat.le_of_lt (hge b hb))), fun p hp => Nat.ne_of_lt (Nat.lt_trans (Heap.lt_size (I1.pin p hp).1) (hge b hb))⟩) (q _ pk1)
 exact aAZ (A := X.A.in1) hu I4 (its := as.map Value.ref) (by
  clear hk2 hG hal hge
  induction as with
  | nil => exact .nil
  | cons b as ih => exact .cons rfl ih) hk2
end
section
variable {K : PySem.W.Frag} {td : TE} {fo : EF}
theorem Good.adopt {W : Wd} {M : Sto} {H : Hp} {b : Addr} {us : List V} (G : Good K W M H) (hb : H b = some (.tup us)) : W.Ext { W with F := upd W.F b (.tup us) } /\ Good K { W with F := upd W.F b (.tup us) } M H := by
 have ff : Same W.F (upd W.F b (.tup us)) := fun c o hc => by
  by_cases q : c = b
  · subst q
    have := G.fh _ _ hc
    rw [hb] at this; cases this
    exact aT
  · rw [aI q]; exact hc
 have e : W.Ext { W with F := upd W.F b (.tup us) } := ⟨ff, Nat.le_refl _, fun _ _ => rfl⟩
 refine ⟨e, fun c o hc => ?_, G.n, fun i c hi hc => ?_, G.inj⟩
 · have hc : upd W.F b (.tup us) c = some o := hc
   by_cases q : c = b
   · subst q; rw [aT] at hc; cases hc; exact hb
   · rw [aI q] at hc; exact G.fh c o hc
 · obtain ⟨h1, o, h2, h3⟩ := G.cs i c hi hc
   have ne : W.α i ≠ b := fun q => by
    rw [q, hb] at h2
    cases h2
    cases c <;> exact False.elim h3
   exact ⟨by show upd W.F b (.tup us) (W.α i) = none; rw [aI ne]; exact h1, o, h2, h3.up e⟩
def BA (kv : List Key × PyData) : List PyData := [.tuple (kv.1.map IY), kv.2]
def vO : List (List Key × CD) -> Option (List (List Key × PyData))
 | [] => some []
 | (k, .d x) :: r => (vO r).bind fun q => some ((k, x) :: q)
 | _ => none
def kZ (rows : List (List PyData)) : Option (List PyData) := if sortable rows = true then some (OO rows) else if rows.length < 2 then some (rows.map .tuple) else none
def pZ (fo : EF) : EF := fun γ M => (fo γ M).bind fun o => match o.1 with
 | .c i => match o.2[i]? with
  | some (.dt kvs) => (vO kvs).bind fun ds => (kZ (ds.map BA)).bind fun r => some (.d (.list r), o.2)
  | _ => none
 | _ => none
theorem EL {H : Hp} : ∀ ks : List Key, RepAll K H (ks.map IY) (ks.map kV)
 | [] => rfl
 | k :: ks => ⟨_, _, rfl, by cases k <;> rfl, EL ks⟩
theorem wN {M : Sto} {H : Hp} : ∀ {bs : List Addr} {kvs : List (List Key × V)} {W : Wd}, Good K W M H -> Paired (fun (b : Addr) (kv : List Key × V) => H b = some (.tup (kv.1.map kV))) bs kvs -> ∃ W', W.Ext W' /\ Good K W' M H /\ Paired (fun (b : Addr) (kv : List Key × V) => W'.F b = some (.tup (kv.1.map kV))) bs kvs
 | _, _, W, G, .nil => ⟨W, .refl _, G, .nil⟩
 | _, _, W, G, .cons h1 h2 => by
  obtain ⟨e1, G1⟩ := G.adopt h1
  obtain ⟨W2, e2, G2, p2⟩ := wN G1 h2
  exact ⟨W2, e1.trans e2, G2, .cons (e2.ff _ _ aT) p2⟩
theorem AD {M : Sto} : ∀ {bs : List Addr} {ds : List (List Key × PyData)} {kvs : List (List Key × V)} {W : Wd} {H : Hp} {k : List V -> Hp -> Prop}, Good K W M H -> Paired (fun (b : Addr) (kv : List Key × V) => W.F b = some (.tup (kv.1.map kV))) bs kvs -> Paired (fun (p : List Key × PyData) (q : List Key × V) => p.1 = q.1 /\ Rep K W.F p.2 q.2) ds kvs ->
 (∀ vs W' H', W.Ext W' -> Good K W' M H' -> RepAll K W'.F ((ds.map BA).map .tuple) vs -> k vs H') -> oV ((bs.zip kvs).map fun p => (.ref p.1, p.2.2)) H k
 | _, _, _, W, H, k, G, .nil, .nil, c => c [] W H (.refl _) G rfl
 | b :: bs, (ks, d) :: ds, (ks', v) :: kvs, W, H, k, G, .cons h1 h2, .cons q1 q2, c => by
  obtain ⟨rfl, rd⟩ := (show ks = ks' /\ Rep K W.F d v from q1)
  intro p hp
  obtain ⟨e1, G1⟩ := G.lay (o := .tup [.ref b, v]) hp
  refine AD G1 (Paired.mapP h2 fun _ _ r => e1.ff _ _ r) (Paired.mapP q2 fun _ _ r => ⟨r.1, Rep.same e1.ff _ _ r.2⟩) fun vs W2 H2 e2 G2 r2 => ?_
  refine c _ W2 H2 (e1.trans e2) G2 ⟨_, _, rfl, ⟨p, _, rfl, SqT.of (e2.ff _ _ aT), ?_⟩, r2⟩
  exact ⟨_, _, rfl, ⟨b, _, rfl, SqT.of ((e1.trans e2).ff _ _ h1), EL ks⟩, _, _, rfl, Rep.same (e1.trans e2).ff _ _ rd, rfl⟩
theorem wC {W : Wd} : ∀ {kvs : List (List Key × CD)} {ds : List (List Key × PyData)} {us : List (List Key × V)}, vO kvs = some ds -> PKV K W kvs us -> Paired (fun (p : List Key × PyData) (q : List Key × V) => p.1 = q.1 /\ Rep K W.F p.2 q.2) ds us
 | [], _, _, h, .nil => by cases h; exact .nil
 | (k, .d x) :: r, _, _, h, .cons r1 r2 => by
  obtain ⟨q, h1, h⟩ := aH (show (vO r).bind _ = _ from h)
  cases h
  exact .cons r1 (wC h1 r2)
 | (k, .c _) :: r, _, _, h, _ => by cases h
theorem OI (a : SE K td fo) : SE K (IS K td) (pZ fo) := by
 intro γ M x M' hh W H σ Q G R k
 obtain ⟨⟨o, M1⟩, h1, hh⟩ := aH hh
 revert hh
 dsimp only
 split
 · rename_i i
   split
   · rename_i kvs hk
     intro hh
     obtain ⟨ds, h2, hh⟩ := aH hh
     obtain ⟨r, h3, hh⟩ := aH hh
     cases hh
     refine a _ _ _ _ h1 W H σ _ G R fun v W1 H1 e1 G1 r1 => ?_
     obtain ⟨us, hu, pu⟩ := G1.dtAt hk
     refine ⟨_, us, r1.2, hu, fun bs pb => ?_⟩
     obtain ⟨W2, e2, G2, p2⟩ := wN G1 pb
     refine AD G2 p2 (Paired.mapP (wC h2 pu) fun _ _ r => ⟨r.1, Rep.same e2.ff _ _ r.2⟩) fun vs W3 H3 e3 G3 r3 => ?_
     have e13 := (e1.trans e2).trans e3
     unfold kZ at h3
     by_cases hs : sortable (ds.map BA) = true
     · rw [if_pos hs] at h3
       cases h3
       obtain ⟨s1, s2, s3, s4, s5⟩ := zE hs
       refine .inl ⟨ds.map BA, RepAll.same G3.fh _ _ r3, s1, s2, s3, s4, s5, fun l hl => ?_⟩
       obtain ⟨e4, G4⟩ := G3.lay (o := .lst ((hX (oP (ds.map BA)) (ds.map BA).length).map fun i => vs.getD i .non)) hl
       exact k _ _ _ (e13.trans e4) G4 ⟨l, _, rfl, SqL.of aT, RepAll.same e4.ff _ _ (AE r3 _ (aBO (by omega)))⟩
     · rw [if_neg hs] at h3
       by_cases hl2 : (ds.map BA).length < 2
       · rw [if_pos hl2] at h3
         cases h3
         refine .inr ⟨by rw [<- r3.length, List.length_map]; exact hl2, fun l hl => ?_⟩
         obtain ⟨e4, G4⟩ := G3.lay (o := .lst vs) hl
         exact k _ _ _ (e13.trans e4) G4 ⟨l, _, rfl, SqL.of aT, RepAll.same e4.ff _ _ r3⟩
       · rw [if_neg hl2] at h3; cases h3
   · intro hh; cases hh
 · intro hh; cases hh
theorem OK {ι : Type} {X : ι -> Cx} {o : Expr} {f : EF} {pos apos cpos p : Pos} (hK : ∀ i, (X i).K = K) (hu : ∀ i, (X i).A.in1.in1.units + 64 < cLine) (hc : ∀ i, (X i).calm = true) (hm : ∀ i, (X i).mg "sorted" = none) (x : ME K X o f) (hg : ∀ i, Gl (X i) "sorted" := by intro _; rfl)
 (hb : ∀ env : Env, attributeBase o "items" env (eval o env) = eval o env := by intro _; rfl) (hline : (apos.endLine == cpos.line) = true := by rfl) : ME K X (.Call (.Name "sorted" p) [.Call (.Attribute o "items" apos) [] [] cpos] [] pos) (pZ f) := by
 obtain ⟨t, x1, x2⟩ := x.ex
 exact ⟨_, fun i => by have := IV (p := p) (pos := pos) (apos := apos) (cpos := cpos) (hu i) (hc i) (hg i) (hm i) (x1 i) (hb _) hline; rw [hK i] at this; exact this, OI x2⟩
end
end L2
end
section
set_option Elab.async false
set_option linter.all false
set_option maxRecDepth 100000
set_option maxHeartbeats 4000000
namespace L2
open PySem PySem.Spec PyProof.Rows
end L2
end
section
set_option Elab.async false
set_option linter.all false
set_option maxRecDepth 100000
set_option maxHeartbeats 4000000
namespace L2
open PySem PySem.Spec PyProof.Rows
section
variable {X : Cx} {pins : List (Addr × Obj)} {σ : St} {H : Hp} {s : Shared} {a : Addr} {y v : V} {u r : Value} {A : Around} {E : Value -> Shared -> Prop}
theorem HM {H' : Hp} {Q : Unit -> Shared -> Prop} (hu : A.units < cLine) (I : Inv X pins σ H s) (g : DPut H a y v H') (ry : RelV y u) (rv : RelV v r) (h : ∀ s', Inv X pins σ H' s' -> Q () s') :
 wpAny (model X.prog X.w) A (dictSet a u r) Q E s := by
 rcases g with ⟨kvs, k, e, ey, l, eH⟩ | ⟨kvs, k, b, e, ey, eb, l, eH⟩
 · subst ey eH
   obtain ⟨z, hd, vs, rel, dd⟩ := LM I.hok e
   have hz : vs.length <= sizeLine := by rw [<- rel.length]; exact z
   have hl : (putK kvs k v).length <= sizeLine := by have := gO kvs k v; omega
   refine wpAny_dictSet_pairs (hsz := hz) (AV ry) dd fun h' dd' hs => h _ ?_
   have he : ∃ q, h'.get? a = some q := let ⟨q, _, _, hq, _⟩ := dd'; ⟨q, hq⟩
   exact oM I (by rw [e]; exact True.intro) hs he (BZ hl hd (rel.put k rv) dd')
 · subst ey eH
   cases (show u = Value.ref b from ry)
   obtain ⟨z, hd, xs, rel, dd⟩ := VF I.hok e
   have hz : xs.length <= sizeLine := by rw [<- Paired.length rel]; exact z
   have hl : (putK kvs k v).length <= sizeLine := by have := gO kvs k v; omega
   refine wpAny_dictSet_heap (hsz := hz) hu (wQ I.hok eb) dd fun h' dd' hs => h _ ?_
   obtain ⟨q, es, ep, hq, h2, h3, h4, _, h5⟩ := dd'
   refine oM I (by rw [e]; exact True.intro) hs ⟨q, hq⟩ ⟨hl, hd, _, (rel.put k eb rv).keeps fun c ys ec => ?_, q, es, ep, hq, h2, h3, h4, h5⟩
   rw [aI (qL ec e (fun z => nomatch z))]
   exact ec
end
section
variable {prog : Program} {w : World} {A : Around} {R : Result -> Shared -> Prop} {s : Shared}
theorem QK {kx vx target iter : Expr} {ifs : List Expr} {scope : Scope} {pos : Pos} {it : Value} {D : Addr} {env : Env} (I : Nat -> Shared -> Prop)
 (turn : ∀ n s, I n s -> wpAny (model prog w) A (pyNext it) (fun r s1 => (r = none /\ R (.ok .next) s1) \/ ∃ v, r = some v /\
  wpAny (model prog w) A (letOwnedTupleGo target it v) (fun _ s2 => wpAny (model prog w) A (assign target env v) (fun _ s3 =>
   wpAny (model prog w) A (forIn ifs true fun c r => if r = true then (do
    let ok <- isTrue c env (eval c env)
    pure (ForInStep.yield ok)) else pure (ForInStep.yield r)) (fun ok s4 =>
     (ok = true /\ wpAny (model prog w) A (eval kx env) (fun kv s5 => wpAny (model prog w) A (eval vx env) (fun vv s6 => wpAny (model prog w) A (dictSet D kv vv) (fun _ s7 => ∃ m, m < n /\ I m s7) (fun _ _ => False) s6) (fun _ _ => False) s5) (fun _ _ => False) s4) \/
     (ok = false /\ ∃ m, m < n /\ I m s4)) (fun _ _ => False) s3) (fun _ _ => False) s2) (fun _ _ => False) s1) (fun _ _ => False) s)
 (n : Nat) (h : I n s) : codeAny (model prog w) A (.compLoop (.DictComp kx vx [⟨target, iter, ifs, 0⟩] scope pos) 0 it (.ref D) env) R s := by
 refine codeAny_loop rfl I (fun n s hI => ?_) n h
 show wpAny _ A ((compTurn (.DictComp kx vx [⟨target, iter, ifs, 0⟩] scope pos) 0 it (.ref D) env).onRaise fun x => do
  noteFrame x env
  theTreesLotGoes x) _ _ s
 refine wpAny_noted ?_
 rw [compTurn_dict]
 refine wpAny_bind (wpAny_standAt (wpAny_bind (wpAny_mono (turn n s hI) (fun r s1 h1 => ?_) fun _ _ f => f.elim)))
 rcases h1 with ⟨rfl, h1⟩ | ⟨v, rfl, h1⟩
 · exact wpAny_pure h1
 · refine wpAny_bind (wpAny_mono h1 (fun _ s2 h2 => ?_) fun _ _ f => f.elim)
   refine wpAny_bind (wpAny_mono h2 (fun _ s3 h3 => ?_) fun _ _ f => f.elim)
   refine wpAny_bind (wpAny_mono h3 (fun ok s4 h4 => ?_) fun _ _ f => f.elim)
   rcases h4 with ⟨rfl, h4⟩ | ⟨rfl, h4⟩
   · refine wpAny_bind (wpAny_bind (wpAny_mono h4 (fun kv s5 h5 => ?_) fun _ _ f => f.elim))
     refine wpAny_bind (wpAny_holding (wpAny_mono h5 (fun vv s6 h6 => ?_) fun _ _ f => f.elim))
     refine wpAny_bind (wpAny_standAt (wpAny_holding (wpAny_mono h6 (fun _ s7 h7 => wpAny_pure ⟨rfl, h7⟩) fun _ _ f => f.elim)))
   · exact wpAny_pure ⟨rfl, h4⟩
end
def tDc (o0 : HO) (cap : List (Option Nat)) (wi : TI) (g : TG) (tc : TT) (tk tv : TE) : TE := fun σ H Q => wi σ H fun J H1 => ∀ D, H1 D = none -> ∃ W : Nat -> Nat -> St -> Hp -> Prop, (∃ m, W 0 m (rK cap σ) (upd H1 D o0)) /\ ∀ i m σ' H', W i m σ' H' ->
 (J.stop i H' /\ Q (.ref D) H') \/
 (J.go i H' /\ ∃ N : St -> Hp -> Prop, (∀ σ2 H2, N σ2 H2 -> ∃ m', m' < m /\ W (i + 1) m' σ2 H2) /\ ∀ x H2, J.yld i H' x H2 -> g x σ' H2 fun σ2 H3 => tc σ2 H3 fun b H4 => (b = true /\ tk σ2 H4 fun y H5 => tv σ2 H5 fun v H6 => ∃ H7, DPut H6 D y v H7 /\ N σ2 H7) \/ (b = false /\ N σ2 H4))
section
variable {X : Cx} {N' : List Str} {cap : List (Option Nat)} {scope : Scope}
theorem aAD {o0 : HO} (ho : o0 = .dT [] \/ o0 = .dK []) {kx vx tg iter : Expr} {ifs : List Expr} {pos : Pos} {wi : TI} {g : TG} {tc : TT} {tk tv : TE} (hu : X.A.units < cLine) (hc : X.calm = true) (S : LcSc X N' cap scope) (hi : PI X tg iter wi)
 (hg : ∀ C s H fp pn, PG (eF X N' scope C s H fp pn) tg g) (hif : ∀ C s H fp pn, yM (eF X N' scope C s H fp pn) ifs tc) (hk : ∀ C s H fp pn, PE (eF X N' scope C s H fp pn) kx tk) (hv : ∀ C s H fp pn, PE (eF X N' scope C s H fp pn) vx tv)
 (hs : ∀ x, foldedSetIterable iter X.env x = pure x) {pins : List (Addr × Obj)} {s : Shared} {σ : St} {H : Hp} {Q : VK} (I : Inv X pins σ H s) (h : tDc o0 cap wi g tc tk tv σ H Q) {use : Option (Value -> Sem Unit)} {QQ : Value -> Shared -> Prop}
 (post : ∀ (D C : Addr) (H' : Hp) (s' : Shared), (∃ m, s'.heap.Ns C m) -> (∀ h', Heap.SameBut C s'.heap h' -> Inv X pins σ H' { s' with heap := h' }) -> mS X pins H' C -> Q (.ref D) H' -> compPost (model X.prog X.w) X.A X.xe use QQ (.ref D) C (.ok .next) s') :
 wpAny (model X.prog X.w) X.A (comprehension (.DictComp kx vx [⟨tg, iter, ifs, 0⟩] scope pos) scope X.env (firstIterPos [⟨tg, iter, ifs, 0⟩] pos) newDict false (firstIter [⟨tg, iter, ifs, 0⟩] X.env) use) QQ X.xe s := by
 refine wpAny_comprehension_free (e := .DictComp kx vx [⟨tg, iter, ifs, 0⟩] scope pos) (g := ⟨tg, iter, ifs, 0⟩) (gs := []) rfl hs (sE (S.cells I.ok)) S.kind S.names ?_
 refine thn (hi pins s σ H _ I h) fun v s1 h1 => thn h1 fun itv s2 h2 => ?_
 obtain ⟨it, fp, tn, J, H2, e, I2, T, st2, f2, hD⟩ := h2
 subst e
 have fplt2 : ∀ b ∈ fp, b < s2.heap.objs.size := fun b hb => by
  obtain ⟨o, e, _⟩ := T.obj _ _ st2 b hb
  exact Heap.lt_size e
 refine wpAny_newObj_type ?_
 obtain ⟨W, ⟨m0, w0⟩, turn⟩ := hD s2.heap.objs.size (I2.hok.fresh (Nat.le_refl _))
 generalize hDn : s2.heap.objs.size = D at *
 have I3 : Inv X pins σ (upd H2 D o0) { s2 with heap := s2.heap.push { cls := .type "dict", data := .dict #[] } } := by
  refine I2.laid (t' := s2.toks) (fun _ _ q => Heap.get?_push_of_some _ q) (Nat.le_of_eq hDn) ?_
  rcases ho with rfl | rfl
  · rw [<- hDn]; exact AI _ I2.big
  · rw [<- hDn]; exact sZ _ I2.big
 have st3 : tn 0 (s2.heap.push { cls := .type "dict", data := .dict #[] }) := T.keep _ _ _ st2 fun b _ o e => Heap.get?_push_of_some _ e
 have f3 : ∀ b ∈ fp, mS X pins (upd H2 D o0) b := fun b hb => by
  obtain ⟨q0, q1⟩ := f2 b hb
  exact ⟨by rw [aI (Nat.ne_of_lt (fplt2 b hb))]; exact q0, q1⟩
 generalize hs3 : ({ s2 with heap := s2.heap.push { cls := .type "dict", data := .dict #[] } } : Shared) = s3 at I3 ⊢
 have st3 : tn 0 s3.heap := by rw [<- hs3]; exact st3
 have fplt : ∀ b ∈ fp, b < s3.heap.objs.size := fun b hb => by
  obtain ⟨o, e, _⟩ := T.obj _ _ st3 b hb
  exact Heap.lt_size e
 refine wpAny_newFunctionEnv S.nocell (fun y hy => by simp at hy) (fun h1' hns hsb => ?_) S.kind
 have old : ∀ b o, s3.heap.get? b = some o -> h1'.get? b = some o := fun b o e => hsb.extBut b o (Nat.ne_of_lt (Heap.lt_size e)) (Heap.get?_push_of_some _ e)
 have I4 : Inv (eF X N' scope s3.heap.objs.size s3 (upd H2 D o0) fp pins) [] (rK cap σ) (upd H2 D o0) { s3 with heap := h1', toks := s3.toks + ([] : List (Str × Value)).length } :=
  yN S I3 f3 fplt (Nat.le_refl _) (by simpa using hns) old
 have loop : ∀ s4 : Shared, s4 = { s3 with heap := h1', toks := s3.toks + ([] : List (Str × Value)).length } ->
  codeAny (model X.prog X.w) X.A (.compLoop (.DictComp kx vx [⟨tg, iter, ifs, 0⟩] scope pos) 0 (.ref it) (.ref D) (compEnvC scope (eD X.env scope.names []) s3.heap.objs.size X.env)) (compPost (model X.prog X.w) X.A X.xe use QQ (.ref D) s3.heap.objs.size) s4 := by
  rintro s4 rfl
  have stat : ∀ {Hx : Hp}, (∀ b ∈ fp, Hx b = none) -> ∀ b ∈ fp, mS (eF X N' scope s3.heap.objs.size s3 (upd H2 D o0) fp pins) [] Hx b := fun {Hx} hn b hb => by
   refine ⟨hn b hb, Nat.ne_of_lt (fplt b hb), I3.stkAll (f3 b hb).2.1 (f3 b hb).2.2.1, .inl hb, fun x c e => (f3 b hb).2.2.2.2.1 x c (S.sub I3.ok x c e), fun p hp => ?_⟩
   rcases List.mem_append.mp hp with z | z
   · exact (f3 b hb).2.2.2.2.2 p z
   · exact absurd z (by simp)
  refine QK (fun n s' => ∃ (i : Nat) (σ' : St) (H' : Hp), Inv (eF X N' scope s3.heap.objs.size s3 (upd H2 D o0) fp pins) [] σ' H' s' /\ tn i s'.heap /\ (∀ b ∈ fp, H' b = none) /\ W i n σ' H') ?_ m0
   ⟨0, rK cap σ, _, I4, T.keep _ _ _ st3 fun b _ o e => old b o e, fun b hb => (f3 b hb).1, w0⟩
  rintro n s5 ⟨i, σ', H', I5, t5, fr5, w5⟩
  rcases turn i n σ' H' w5 with ⟨stop, q⟩ | ⟨go, N, hN, step⟩
  · refine thn (T.done (eF X N' scope s3.heap.objs.size s3 (upd H2 D o0) fp pins) rfl rfl rfl hc i _ s5 σ' H' _ I5 (stat fr5) t5 stop) fun r s6 ⟨hr, I6⟩ => .inl ⟨hr, ?_⟩
    have nC : H' s3.heap.objs.size = none := I6.free
    refine post D _ H' s6 (let ⟨m, hn, _⟩ := I6.loc; ⟨m, hn⟩) (fun h' hs' => ?_) (I3.fpOk (Nat.le_refl _) nC) q
    have up : ∀ b o, b ≠ s3.heap.objs.size -> s6.heap.get? b = some o -> h'.get? b = some o := fun b o hb e => hs'.extBut b o hb e
    have ltC : ∀ b o, s3.heap.get? b = some o -> b ≠ s3.heap.objs.size := fun b o e => Nat.ne_of_lt (Heap.lt_size e)
    have u6 : Un (frs X.stack) fp (upd H2 D o0) H' s3.heap s6.heap := I6.base
    have u7 : Un (frs X.stack) fp (upd H2 D o0) H' s3.heap h' := by
     refine ⟨fun b o e n hb hx => up b o (ltC b o e) (u6.keep b o e n hb hx), fun b o e n hb hx => ?_, u6.free, fun b o e hx => ?_, u6.tups, u6.frzs, u6.tbls⟩
     · obtain ⟨sl, q⟩ := u6.slot b o e n hb hx
       exact ⟨sl, up b _ (ltC b o e) q⟩
     · obtain ⟨o', q⟩ := u6.there b o e hx
       exact ⟨o', up b o' (ltC b o e) q⟩
    have ok7 : HOk X.prog X.w H' h' := fun b u e => by
     refine (I6.hok b u e).stay (fun c v hc' z => up c v ?_ z) (fun c z => z) fun c xs z => z
     rcases hc' with rfl | z
     · exact aN e nC
     · exact aN z nC
    have os6 : s6.os = s3.os := I6.os
    have ba6 := I6.bare
    obtain ⟨hh, gg, dd, tt, oo⟩ := s6
    subst os6
    have z7 := I3.call (s := s3) (h' := h') (g' := gg) (d' := dd) (t' := tt) (ch := fp) u7 ok7 ba6 fun b hb => ⟨(f3 b hb).2.2.2.1, (f3 b hb).2.1, (f3 b hb).2.2.2.2.1, (f3 b hb).2.2.2.2.2⟩
    exact z7
  · refine thn (T.item (eF X N' scope s3.heap.objs.size s3 (upd H2 D o0) fp pins) rfl rfl rfl hc i _ s5 σ' H' _ I5 (stat fr5) t5 go) fun r s6 ⟨u, hr, h6⟩ => .inr ⟨u, hr, ?_⟩
    refine thn h6 fun _ s7 ⟨x, H7, I7, r7, y7, t7, fr7⟩ => ?_
    have I7' := I7.pinned (stat fr7) (T.obj _ _ t7)
    have back : ∀ {σx : St} {Hx : Hp} {sx : Shared}, Inv (eF X N' scope s3.heap.objs.size s3 (upd H2 D o0) fp pins) ([] ++ pV fp s7.heap) σx Hx sx -> (∀ b ∈ fp, ∀ o, s7.heap.get? b = some o -> sx.heap.get? b = some o) /\ (∀ b ∈ fp, Hx b = none) := fun {σx Hx sx} Ix => by
     refine ⟨fun b hb o e => (Ix.pin (b, o) (List.mem_append_right _ (List.mem_append_right _ (fX hb e)))).1, fun b hb => ?_⟩
     obtain ⟨o, e, _⟩ := T.obj _ _ t7 b hb
     exact (Ix.pin (b, o) (List.mem_append_right _ (List.mem_append_right _ (fX hb e)))).2.1
    refine thn (hg _ _ _ _ _ _ s7 σ' H7 x u _ I7' r7 (step x H7 y7)) fun _ s8 ⟨σ8, H8, I8, q8⟩ => ?_
    refine thn (hif _ _ _ _ _ _ s8 σ8 H8 _ I8 q8) fun b s9 ⟨H9, I9, q9⟩ => ?_
    rcases q9 with ⟨rfl, q9⟩ | ⟨rfl, n9⟩
    · refine .inl ⟨rfl, thn (hk _ _ _ _ _ _ s9 σ8 H9 _ I9 q9) fun uk s10 ⟨y, H10, I10, ry, q10⟩ => thn (hv _ _ _ _ _ _ s10 σ8 H10 _ I10 q10) fun uv s11 ⟨v, H11, I11, rv, H12, g12, n12⟩ => ?_⟩
      obtain ⟨m', hm, w12⟩ := hN _ _ n12
      refine HM (X := eF X N' scope s3.heap.objs.size s3 (upd H2 D o0) fp pins) hu I11 g12 ry rv fun s12 I12 => ?_
      obtain ⟨b1, b2⟩ := back I12
      exact ⟨m', hm, i + 1, σ8, H12, I12.pins_of fun p hp => absurd hp (by simp), T.keep _ _ _ t7 b1, b2, w12⟩
    · obtain ⟨m', hm, w9⟩ := hN _ _ n9
      obtain ⟨b1, b2⟩ := back I9
      exact .inr ⟨rfl, m', hm, i + 1, σ8, H9, I9.pins_of fun p hp => absurd hp (by simp), T.keep _ _ _ t7 b1, b2, w9⟩
 exact codeAny_compStart_dict (loop _ rfl) (T.self _ 0 _ _ _ (T.keep _ _ _ st3 fun b _ o e => old b o e) (loop _ rfl))
theorem aCd {o0 : HO} (ho : o0 = .dT [] \/ o0 = .dK []) {kx vx tg iter : Expr} {ifs : List Expr} {pos : Pos} {wi : TI} {g : TG} {tc : TT} {tk tv : TE} (hu : X.A.units < cLine) (hc : X.calm = true) (S : LcSc X N' cap scope) (hi : PI X tg iter wi)
 (hg : ∀ C s H fp pn, PG (eF X N' scope C s H fp pn) tg g) (hif : ∀ C s H fp pn, yM (eF X N' scope C s H fp pn) ifs tc) (hk : ∀ C s H fp pn, PE (eF X N' scope C s H fp pn) kx tk) (hv : ∀ C s H fp pn, PE (eF X N' scope C s H fp pn) vx tv)
 (hs : ∀ x, foldedSetIterable iter X.env x = pure x := by intro _; rfl) : PE X (.DictComp kx vx [⟨tg, iter, ifs, 0⟩] scope pos) (tDc o0 cap wi g tc tk tv) := fun pins s σ H Q I h =>
 aAD (use := none) ho hu hc S hi hg hif hk hv hs I h fun D _ H' _ ⟨m, hn⟩ hI _ q => ⟨m, hn, fun h' hs' => ⟨.ref D, H', hI h' hs', rfl, q⟩⟩
end
end L2
end
section
set_option Elab.async false
set_option linter.all false
set_option maxRecDepth 100000
set_option maxHeartbeats 4000000
namespace L2
open PySem PySem.Spec PyProof.Rows
def dcF (d : Nat) (g : GF) (c : TF) (fk : KF) (e : EF) : List CD -> Ga -> Sto -> Option Sto
 | [], _, M => some M
 | x :: xs, γ, M => (g x γ M).bind fun a => (c a.1 a.2).bind fun b => if b.1 = true then (fk a.1 b.2).bind fun k => (e a.1 k.2).bind fun v => (AY v.2 (.c d) k.1 v.1).bind fun M' => dcF d g c fk e xs a.1 M' else dcF d g c fk e xs a.1 b.2
def fDc (c0 : Cell) (cap : List (Option Nat)) (f : AF) (g : GF) (c : TF) (fk : KF) (e : EF) : EF := fun γ M => (f γ M).bind fun r => (dcF r.2.length g c fk e r.1 (yP cap γ) (r.2 ++ [c0])).bind fun M' => some (.c r.2.length, M')
section
variable {K : PySem.W.Frag} {tg : TG} {tt : TT} {hg : GF} {ft : TF} {fa : AF}
theorem aBS {o0 : HO} {c0 : Cell} (h0 : (o0 = .dT [] /\ c0 = .dt []) \/ (o0 = .dK [] /\ c0 = .dk [])) {wi : TI} {cap : List (Option Nat)} {tk tv : TE} {fk : KF} {fe : EF} (i : SI K wi fa) (a : SG K tg hg) (c : STt K tt ft) (b : SK K tk fk) (e : SE K tv fe) :
 SE K (tDc o0 cap wi tg tt tk tv) (fDc c0 cap fa hg ft fk fe) := by
 intro γ M x M' hh W H σ Q G R k
 obtain ⟨⟨ys, M1⟩, h1, hh⟩ := aH hh
 obtain ⟨M9, h9, hh⟩ := aH hh
 cases hh
 refine i _ _ _ _ h1 W H σ _ G R fun J W1 H1 e1 G1 gv => fun D hD => ?_
 have G2 : Good K (W1.more D) (M1 ++ [c0]) (upd H1 D o0) := G1.new hD (by rcases h0 with ⟨rfl, rfl⟩ | ⟨rfl, rfl⟩ <;> exact .nil)
 have e2 := W1.ext_more D
 have rD : RepV K (W1.more D) (.c M1.length) (.ref D) := G1.newV
 refine ⟨fun j m σ' H' => ∃ γ' M3 W3, j <= ys.length /\ m = ys.length - j /\ (W1.more D).Ext W3 /\ Good K W3 M3 H' /\ RepS K W3 γ' σ' /\ dcF M1.length hg ft fk fe (ys.drop j) γ' M3 = some M', ⟨_, yP cap γ, _, _, Nat.zero_le _, rfl, .refl _, G2, wR ((R.up e1).up e2) cap, h9⟩, ?_⟩
 rintro j m σ' H' ⟨γ', M3, W3, hj, rfl, e3, G3, R3, h3⟩
 obtain ⟨gv1, gv2⟩ := gv W3 M3 H' (e2.trans e3) G3
 by_cases hlt : j < ys.length
 · obtain ⟨go, yl⟩ := gv1 j ys[j] (List.getElem?_eq_getElem hlt)
   rw [List.drop_eq_getElem_cons hlt] at h3
   refine .inr ⟨go, fun σ4 H4 => ∃ γ4 M4 W4, W3.Ext W4 /\ Good K W4 M4 H4 /\ RepS K W4 γ4 σ4 /\ dcF M1.length hg ft fk fe (ys.drop (j + 1)) γ4 M4 = some M', ?_, fun y H4 hy => ?_⟩
   · rintro σ4 H4 ⟨γ4, M4, W4, e4, G4, R4, h4⟩
     exact ⟨_, by omega, γ4, M4, W4, hlt, rfl, e3.trans e4, G4, R4, h4⟩
   · obtain ⟨W8, e8, G8, ry⟩ := yl y H4 hy
     obtain ⟨⟨γ5, M5⟩, h5, h3⟩ := aH (show (hg ys[j] γ' M3).bind _ = _ from h3)
     obtain ⟨⟨b6, M6⟩, h6, h3⟩ := aH h3
     refine a _ _ _ _ _ h5 W8 _ σ' y _ G8 (R3.up e8) ry fun σ5 W5 H5 e5 G5 R5 => ?_
     refine c _ _ _ _ h6 W5 H5 σ5 _ G5 R5 fun W6 H6 e6 G6 => ?_
     have e36 := (e8.trans e5).trans e6
     cases b6 with
     | true =>
      rw [if_pos rfl] at h3
      obtain ⟨⟨ky, M7⟩, h7, h3⟩ := aH h3
      obtain ⟨⟨z, M10⟩, h10, h3⟩ := aH h3
      obtain ⟨M11, h11, h3⟩ := aH h3
      refine .inl ⟨rfl, b _ _ _ _ h7 W6 H6 σ5 _ G6 (R5.up e6) fun yv W7 H7 e7 G7 r7 => e _ _ _ _ h10 W7 H7 σ5 _ G7 (R5.up (e6.trans e7)) fun v W10 H10 e10 G10 r10 => ?_⟩
      have e310 := (e36.trans e7).trans e10
      obtain ⟨p, H11, ep, g11, G11⟩ := AC G10 h11 (rD.up (e3.trans e310)) (r7.up e10) r10
      cases ep
      exact ⟨H11, g11, γ5, M11, W10, e310, G11, R5.up ((e6.trans e7).trans e10), h3⟩
     | false =>
      rw [if_neg Bool.false_ne_true] at h3
      exact .inr ⟨rfl, γ5, M6, W6, e36, G6, R5.up e6, h3⟩
 · have ej : j = ys.length := by omega
   subst ej
   rw [List.drop_length] at h3
   cases h3
   exact .inl ⟨gv2, k _ W3 H' ((e1.trans e2).trans e3) G3 (rD.up e3)⟩
variable {ι : Type} {X : ι -> Cx} {N' : List Str} {cap : List (Option Nat)} {scope : Scope} {tg' iter kx vx : Expr} {ifs : List Expr} {gf : GF} {fk : KF} {f : EF} {pos : Pos}
theorem aAw (hu : ∀ i, (X i).A.units < cLine) (hc : ∀ i, (X i).calm = true) (S : ∀ i, LcSc (X i) N' cap scope) (x : MI K X tg' iter fa) (y : MG K (nJ X N' scope) tg' gf) (z : MF K (nJ X N' scope) ifs ft) (w : MK K (nJ X N' scope) kx fk) (q : ME K (nJ X N' scope) vx f) (hs : ∀ (env : Env) (x : Value), foldedSetIterable iter env x = pure x := by intro _ _; rfl) :
 ME K X (.DictComp kx vx [⟨tg', iter, ifs, 0⟩] scope pos) (fDc (.dt []) cap fa gf ft fk f) := by
 obtain ⟨t, x1, x2⟩ := x.ex; obtain ⟨u, y1, y2⟩ := y.ex; obtain ⟨v, z1, z2⟩ := z.ex; obtain ⟨o, w1, w2⟩ := w.ex; obtain ⟨p, q1, q2⟩ := q.ex
 exact ⟨_, fun i => aCd (.inl rfl) (hu i) (hc i) (S i) (x1 i) (fun C s H fp pn => y1 (i, C, s, H, fp, pn)) (fun C s H fp pn => z1 (i, C, s, H, fp, pn)) (fun C s H fp pn => w1 (i, C, s, H, fp, pn)) (fun C s H fp pn => q1 (i, C, s, H, fp, pn)) (hs _), aBS (.inl ⟨rfl, rfl⟩) x2 y2 z2 w2 q2⟩
end
end L2
end
section
set_option Elab.async false
set_option linter.all false
set_option maxRecDepth 100000
set_option maxHeartbeats 4000000
namespace L2
open PySem PySem.Spec PyProof.Rows
end L2
end
section
set_option Elab.async false
set_option linter.all false
namespace L2
open PySem PySem.Spec PyProof.Rows
theorem Room.u1 {k : Nat} {A : Around} (r : Room k A) : A.units + 1 < cLine := by have := r.un; omega
theorem Room.u0 {k : Nat} {A : Around} (r : Room k A) : A.units < cLine := by have := r.un; omega
end L2
end
section
set_option Elab.async false
set_option linter.all false
set_option maxRecDepth 100000
set_option maxHeartbeats 4000000
namespace L2
open PySem PySem.Spec PyProof.Rows
abbrev IPF := Ga -> Sto -> Option ((List CD × (Sto -> Prop)) × Sto)
end L2
end
section
set_option Elab.async false
set_option linter.all false
set_option maxRecDepth 100000
set_option maxHeartbeats 4000000
namespace L2
open PySem PySem.Spec PyProof.Rows
end L2
end
section
set_option Elab.async false
set_option linter.all false
set_option maxRecDepth 100000
set_option maxHeartbeats 4000000
namespace L2
open PySem PySem.Spec PyProof.Rows
end L2
end
section
set_option Elab.async false
set_option linter.all false
set_option maxRecDepth 100000
set_option maxHeartbeats 4000000
namespace L2
open PySem PySem.Spec PyProof.Rows
end L2
end
section
set_option Elab.async false
set_option linter.all false
set_option maxRecDepth 100000
set_option maxHeartbeats 4000000
namespace PySem
open Sem (wp)
namespace F
end F
end PySem
namespace L2
open PySem PySem.Spec PyProof.Rows
end L2
end
section
set_option Elab.async false
set_option linter.all false
set_option maxRecDepth 100000
set_option maxHeartbeats 4000000
namespace L2
open PySem PySem.Spec PyProof.Rows
end L2
end
section
set_option Elab.async false
set_option linter.all false
set_option maxRecDepth 100000
set_option maxHeartbeats 4000000
namespace L2
open PySem PySem.Spec PyProof.Rows
theorem Room.le {ι : Type} {j k : Nat} {A : Around} {q : Bool} (r : Room k A q) (h : j <= k := by decide) : ι -> Room j A q := fun _ => r.mono h
theorem Room.mark {j k : Nat} {A : Around} {v : Option Value} (r : Room k A) (h : j <= k) : Room j (A.mark v) false :=
 ⟨(fun z => nomatch z), (r.mono h).dp, (r.mono h).un, r.gd⟩
def BI (C : Addr) (sp : Sp) (EE : St -> XK) (t : TA) : TE := fun σ H Q => aBB C sp [] (EE σ) t σ H Q
theorem OQ {X : Cx} {EE : St -> XK} {C f : Addr} {k : Nat} {x : Str} {fd : FuncData} {ps : List Str} {sp : Sp} {p pos : Pos} {e : Expr} {es : List Expr} {t : TA} (ok : XOk X EE) (M : Mk X.K C f) (F : FnOk X.prog X.w X.K X.mg X.base (CX1 X.prog X.w) k f fd ps sp) (hr : Room (k + 1) X.A)
 (hg : Gl X x) (hm : X.mg x = some (.ref C)) (hb : Binds X.K fd ps []) (ha : PA X (e :: es) t) (hdb : (x == ("__debug__" : Str)) = false) (he : starEach (e :: es) X.env = (false, eval e X.env) :: starEach es X.env) (hpl : (backTo pos (starEach es X.env)).any (·.1) = false) :
 PE X (.Call (.Name x p) (e :: es) [] pos) (BI C sp EE t) := by
 intro pins s σ H Q I h
 refine wpAny_Call_Name_kw (kA I hg hm ?_ hdb)
 refine PySem.W.callWith_K (h₀ := X.base) I.ok.mod.kin M.kp (thn (ha pos pins s σ H _ I h) fun us s1 ⟨vs, H1, I1, r, q⟩ => ⟨I1.kIn, ?_⟩) he hpl
 exact IK M F hr hb .nil (fun _ _ _ _ I' z => ok.pass _ _ (LO ok.bd I' z)) I1 r q
def sL (nm : Str) (h : FX) (fa : AF) : EX := fun γ M => (fa γ M).bind fun r => (h (.c r.2.length :: r.1) (r.2 ++ [.obj nm []])).bind fun q => match q.1 with
 | .x e => some (.x e, q.2)
 | .v y => if nE y = true then some (.v (.c r.2.length), q.2) else none
def yW (nm f : Str) (eo : EF) (ev : EX) : SFX := fun γ M => (ev γ M).bind fun r => match r.1 with
 | .x e => some (.xc γ e, r.2)
 | .v v => (eo γ r.2).bind fun o => (objOf nm o.2 o.1).bind fun p => if p.2.length < 1000 then some (.o (.nx γ), o.2.set p.1 (.obj nm (oW f v p.2))) else none
section
variable {K : PySem.W.Frag} {EE : St -> XK} {ta tv : TE} {tA : TA}
theorem LH {nm : Str} {h : FX} {fa : AF} (b : SA K tA fa) : SEX K EE (BI (aP K nm) (spX K h) EE tA) (sL nm h fa) := by
 intro γ M r M' hh W H σ Q G R k
 obtain ⟨⟨ys, M1⟩, h1, hh⟩ := aH hh
 obtain ⟨⟨z, M2⟩, h2, hh⟩ := aH hh
 refine b _ _ _ _ h1 W H σ _ G R fun vs W1 H1 e1 G1 r1 => ?_
 intro p dx hp hdx hne
 rw [List.append_nil]
 have Ga := G1.extra (o := .own p) hdx
 have hp' : (upd H1 dx (.own p)) p = none := by rw [aI (Ne.symm hne)]; exact hp
 have Gb := Ga.new hp' (c := .obj nm []) (o := .ins (aP K nm) dx []) ⟨rfl, .nil⟩
 have e2 := W1.ext_more p
 refine ⟨.c M1.length :: ys, M1 ++ [.obj nm []], W1.more p, z, M2, Gb, .cons G1.newV (RepVs.up r1 e2), h2, fun W3 H3 e3 G3 => ?_⟩
 cases z with
 | x e => cases hh; exact k W3 H3 ((e1.trans e2).trans e3) G3
 | v y =>
  have hh : (if nE y = true then some (Rs.v (.c M1.length), M2) else none) = some (r, M') := hh
  by_cases hy : nE y = true
  · rw [if_pos hy] at hh
    cases hh
    have := zL hy
    subst this
    exact fun v rv => ⟨rv, k W3 H3 ((e1.trans e2).trans e3) G3 _ (G1.newV.up e3)⟩
  · rw [if_neg hy] at hh; cases hh
theorem QA {nm f : Str} {eo : EF} {ev : EX} (c : Cls K (aP K nm)) (n : NoAttr K (aP K nm) f) (a : SE K ta eo) (b : SEX K EE tv ev) : SSX K EE (SL K ta tv f) (yW nm f eo ev) := by
 intro γ M o M' hh W H σ D G R k
 obtain ⟨⟨y, M1⟩, h1, hh⟩ := aH hh
 refine b _ _ _ _ h1 W H σ _ G R fun W1 H1 e1 G1 => ?_
 cases y with
 | x e => cases hh; exact fun c dx z => k W1 H1 e1 G1 σ c dx (R.up e1) z
 | v y =>
  intro v r1
  obtain ⟨⟨z, M2⟩, h2, hh⟩ := aH (show (eo γ M1).bind _ = _ from hh)
  obtain ⟨⟨i, fs⟩, h3, hh⟩ := aH hh
  have hh : (if fs.length < 1000 then some (OutX.o (.nx γ), M2.set i (.obj nm (oW f y fs))) else none) = some (o, M') := hh
  by_cases hl : fs.length < 1000
  · rw [if_pos hl] at hh
    cases hh
    refine a _ _ _ _ h2 W1 H1 σ _ G1 (R.up e1) fun u W2 H2 e2 G2 r2 => ?_
    obtain ⟨rfl, hM⟩ := oO h3
    obtain ⟨dx, us, hH, hp⟩ := G2.objAt hM
    refine ⟨W2.α i, _, dx, us, r2.2, hH, c, n, by rw [<- Paired.len hp]; exact hl, ?_⟩
    exact k W2 _ (e1.trans e2) (G2.set hM (by intro q; cases q) (c' := .obj nm (oW f y fs)) (o' := .ins (aP K nm) dx (jJ f v us)) ⟨rfl, sP (r1.up e2) hp⟩) σ (R.up (e1.trans e2))
  · rw [if_neg hl] at hh; cases hh
end
structure uJ (P : Program) (w : World) (K : PySem.W.Frag) (mg : Str -> Option Value) (base : Heap) (k : Nat) (nm : Str) (ps : List Str) (sp : Sp) : Prop where
 ex : ∃ f fd, FnOk P w K mg base (CX1 P w) k f fd ps sp /\ Mk K (aP K nm) f /\ Binds K fd ps [] /\ mg nm = some (.ref (aP K nm))
section
variable {ι : Type} {K : PySem.W.Frag} {X : ι -> Cx} {EE : ι -> St -> XK} {e o : Expr} {es : List Expr} {f : EX} {g : EF} {fa : AF} {pos : Pos}
theorem aBi {nm fl : Str} (hK : ∀ i, (X i).K = K) (hc : Cls K (aP K nm)) (hn : NoAttr K (aP K nm) fl) (x : MX K X EE o f) (hb : ∀ env : Env, attributeBase o fl env (eval o env) = eval o env := by intro _; rfl) : MX K X EE (.Attribute o fl pos) (FZ nm fl f) := by
 obtain ⟨t, x1, x2⟩ := x.ex
 refine ⟨fun i => QP K (t i) fl, fun i => ?_, fun i => TL hc hn (x2 i)⟩
 have := OR (x1 i) (hb _) (pos := pos)
 rw [hK i] at this
 exact this
theorem TX {nm fl : Str} {pos' : Pos} (hK : ∀ i, (X i).K = K) (hc : Cls K (aP K nm)) (hn : NoAttr K (aP K nm) fl) (x : ME K X o g) (y : MX K X EE e f) (hs : ∀ i, swapsWith e (some (.Attribute o fl pos')) pos.line (X i).env = pure false := by intro _; rfl) :
 MSX K X EE (.Assign [.Attribute o fl pos'] e pos) (yW nm fl g f) := by
 obtain ⟨t, x1, x2⟩ := x.ex; obtain ⟨u, y1, y2⟩ := y.ex
 refine ⟨fun i => SL K t (u i) fl, fun i => ?_, fun i => QA hc hn x2 (y2 i)⟩
 have := JA (x1 i) (y1 i) (hs i)
 rw [hK i] at this
 exact this
theorem PU {k : Nat} {nm : Str} {ps : List Str} {F : FX} {p : Pos} (ok : ∀ i, XOk (X i) (EE i)) (C : ∀ i, uJ (X i).prog (X i).w (X i).K (X i).mg (X i).base k nm ps (spX K F)) (hK : ∀ i, (X i).K = K) (hr : ∀ i, Room (k + 1) (X i).A) (y : MA K X (e :: es) fa) (hg : ∀ i, Gl (X i) nm := by intro _; rfl) (hd : (nm == ("__debug__" : Str)) = false := by decide) :
 MX K X EE (.Call (.Name nm p) (e :: es) [] pos) (sL nm F fa) := by
 obtain ⟨u, y1, y2⟩ := y.ex
 refine ⟨fun i => BI (aP K nm) (spX K F) (EE i) u, fun i => ?_, fun i => LH y2⟩
 obtain ⟨f, fd, F', M, B, m⟩ := (C i).ex
 have := OQ (ok i) M F' (hr i) (hg i) m B (y1 i) hd (y.st.1 _) (y.st.2.plain _ _) (p := p) (pos := pos)
 rw [hK i] at this
 exact this
end
section
variable {P : Program} {w : World} {K : PySem.W.Frag} {mg : Str -> Option Value} {base : Heap}
theorem MDef.okR {nm qual : Str} {st : Stmt} {N ps : List Str} {k : Nat} {b : SFX} (D : MDef K nm "__init__" qual st) (hm : PySem.W.makesIn K (aP K nm) = true) (hk : PySem.W.keepIn K (.ref (aP K nm)) = true) (hg : mg nm = some (.ref (aP K nm))) (S : aS N ps (aG st))
 (hb : ∀ (kV doc pm : Value) (an : Option Addr) (cdv ct : Value) (us : List Value), us.length = ps.length -> bindArgs (PySem.W.fnOf "__init__" qual (cW st) (bI st) (aG st) .none kV doc pm an cdv ct) ⟨us, []⟩ = pure (ps.zip us))
 (hbody : ∀ (f : Addr) (cdv : Value) (A : Around) (outer : List Env) (s : Shared) (H : Hp) (E : XK), Room k (A.deeper (envOfC qual (aG st) s.heap.objs.size f cdv)) ->
  MLX K (PD P w K mg base N qual st f cdv A outer s H E) (fun _ _ => E) (bI st) b) : uJ P w K mg base (k + 1) nm ps (spX K (fnX ps.length N.length b)) := by
 obtain ⟨f, fd, F, h1, h2⟩ := D.ex
 exact ⟨f, fd, F.okXF S hbody, ⟨hm, h1, h2, hk⟩, F.binds hb, hg⟩
end
section
variable {K : PySem.W.Frag}
def HA (neg : Bool) : F2 := fun x y M => match y with
 | .d .none => some (.d (.bool (if neg then !nE x else nE x)), M)
 | _ => none
theorem RI {x : CD} {W : Wd} {v : V} (r : RepV K W x v) : decide (v = .non) = nE x := by
 cases x with
 | c n => rw [r.2]; rfl
 | d x =>
  cases x with
  | list xs => obtain ⟨a, vs, rfl, _⟩ := r; rfl
  | tuple xs => obtain ⟨a, vs, rfl, _⟩ := r; rfl
  | dict xs => obtain ⟨a, vs, rfl, _⟩ := r; rfl
  | _ => cases (show v = _ from r); rfl
theorem QD : P2 K (fun x y H Q => y = .non /\ Q (.bl (!decide (x = .non))) H) (HA true) := by
 intro x y M z M' h W H v u Q G rx ry k
 unfold HA at h
 split at h
 · cases h; exact ⟨ry, by rw [RI rx]; exact k _ W H (.refl _) G rfl⟩
 · cases h
theorem aAF {ι : Type} {X : ι -> Cx} : Q2 K X (compareOp .IsNot) (HA true) := ⟨_, fun _ => PJ, QD⟩
def inC (neg : Bool) : F2 := fun x y M => (snap 5 M x).bind fun a => (snap 5 M y).bind fun b => (aY b).bind fun ds => if (SeqAt.shaped a && ds.all SeqAt.shaped) = true then some (.d (.bool (if neg then !ds.any fun d => PyData.eqv d a else ds.any fun d => PyData.eqv d a)), M) else none
theorem aAp {neg : Bool} : P2 K (aAh K neg) (inC neg) := by
 intro x y M z M' h W H v u Q G rx ry k
 obtain ⟨a, h1, h⟩ := aH h
 obtain ⟨b, h2, h⟩ := aH h
 obtain ⟨ds, h3, h⟩ := aH h
 by_cases hs : (SeqAt.shaped a && ds.all SeqAt.shaped) = true
 · rw [if_pos hs] at h
   cases h
   rw [Bool.and_eq_true] at hs
   obtain ⟨p, vs, rfl, hq, hr⟩ := mM (sQ G 5 y b u h2 ry) h3
   exact ⟨a, ds, p, vs, sQ G 5 x a v h1 rx, rfl, hq, hr, hs.1, hs.2, k _ W H (.refl _) G rfl⟩
 · rw [if_neg hs] at h; cases h
theorem aBs {ι : Type} {X : ι -> Cx} (hK : ∀ i, (X i).K = K) (hu : ∀ i, (X i).A.in1.units + 64 < cLine) : Q2 K X (compareOp .In) (inC false) := ⟨_, fun i => L2.kIn (hK i) (hu i), aAp⟩
end
end L2
end
section
set_option Elab.async false
set_option linter.all false
set_option maxRecDepth 100000
set_option maxHeartbeats 4000000
noncomputable section
namespace Q5
open PySem PySem.Spec PyProof.Rows L2
def top (i : Nat) : Stmt := PySem.Challenge.pw_cutstree_k05_web_refused.main.body.getD i (.Pass ⟨0, 0, 0, 0⟩)
def TB_NoPlace : List (Str × Bool) := [("NoTie", false), ("NoPlace", true)]
def TB_NoTie : List (Str × Bool) := [("NoTie", true), ("NoPlace", false)]
def TB_ValueError : List (Str × Bool) := [("NoTie", true), ("NoPlace", true)]
def TB_CutError : List (Str × Bool) := [("NoTie", true), ("NoPlace", true)]
def TB_TooMany : List (Str × Bool) := [("NoTie", false), ("NoPlace", false)]
def TB_NoWeight : List (Str × Bool) := [("NoTie", false), ("NoPlace", false)]
def TB_NoLine : List (Str × Bool) := [("NoTie", false), ("NoPlace", false)]
abbrev lD : Stmt := top 8
theorem zK : aS ["thing"] ["thing"] (aG lD) := ⟨rfl, rfl, rfl, by decide +kernel, rfl, by decide +kernel, by decide +kernel⟩
def tV : SF := (bL (gX (rF "int" (aE 0)) (tP (rF "bool" (aE 0)))))
def eN : FN := fnF 1 1 tV
abbrev pS : Stmt := top 9
theorem FQ : aS ["thing"] ["thing"] (aG pS) := ⟨rfl, rfl, rfl, by decide +kernel, rfl, by decide +kernel, by decide +kernel⟩
def AJ : SF := (bL (ES "list" "tuple" (aE 0)))
def oH : FN := fnF 1 1 AJ
abbrev eP : Stmt := inClass (top 4) 0
theorem uH : aS ["self", "at"] ["self", "at"] (aG eP) := ⟨rfl, rfl, rfl, by decide +kernel, rfl, by decide +kernel, by decide +kernel⟩
def jD : SF := (yC "NoTie" "at" (aE 0) (aE 1))
def cY : FN := fnF 2 2 jD
abbrev pN : Stmt := top 20
theorem sc_common : aS ["one", "other"] ["one", "other"] (aG pN) := ⟨rfl, rfl, rfl, by decide +kernel, rfl, by decide +kernel, by decide +kernel⟩
def nY : SF := (nR (BP (aE 1)) (AZ 0 1 (aB (aE 1) (aB (fOp mR (aE 0) (aE 1)) aJ))))
def yU : SF := (bC nY
 (bL (aE 0)))
def tZ : FN := fnF 2 2 yU
abbrev kF : Stmt := top 10
theorem xP : aS ["thing", "length"] ["thing", "length"] (aG kF) := ⟨rfl, rfl, rfl, by decide +kernel, rfl, by decide +kernel, by decide +kernel⟩
def qP : SF := (bL (gX (aM oH (aB (aE 0) aJ)) (fOp (eqX false) (aM gN (aB (aE 0) aJ)) (aE 1))))
def iP : FN := fnF 2 2 qP
abbrev eA : Stmt := top 19
theorem kX : aS ["thing"] ["thing"] (aG eA) := ⟨rfl, rfl, rfl, by decide +kernel, rfl, by decide +kernel, by decide +kernel⟩
def cA : SF := (bC (sIf (gOr (jX (gB (aM iP (aB (aE 0) (aB (fC (.int 2)) aJ))))) (gOr (jX (gB (aM eN (aB (fOp ixF (aE 0) (fC (.int 0))) aJ)))) (jX (gB (aM eN (aB (fOp ixF (aE 0) (fC (.int 1))) aJ))))))
 (bL (fC (.bool false)))
 bM)
 (bL (gX (fOp geI (fOp ixF (aE 0) (fC (.int 0))) (fC (.int 0))) (fOp geI (fOp ixF (aE 0) (fC (.int 1))) (fC (.int 1))))))
def bT : FN := fnF 1 1 cA
abbrev iK : Stmt := top 18
theorem sX : aS ["thing"] ["thing"] (aG iK) := ⟨rfl, rfl, rfl, by decide +kernel, rfl, by decide +kernel, by decide +kernel⟩
def dW : SF := (bL (gX (aM bT (aB (aE 0) aJ)) (gX (fOp (eqX false) (fOp mR (fC (.int 55440)) (fOp ixF (aE 0) (fC (.int 1)))) (fC (.int 0))) (fOp (eqX false) (aM tZ (aB (fOp ixF (aE 0) (fC (.int 0))) (aB (fOp ixF (aE 0) (fC (.int 1))) aJ))) (fC (.int 1))))))
def cK : FN := fnF 1 1 dW
abbrev kD : Stmt := top 17
theorem xT : aS ["thing"] ["thing"] (aG kD) := ⟨rfl, rfl, rfl, by decide +kernel, rfl, by decide +kernel, by decide +kernel⟩
def gL : SF := (bL (gX (aM cK (aB (aE 0) aJ)) (fOp leI (fOp ixF (aE 0) (fC (.int 0))) (fC (.int 1000000000000)))))
def eQ : FN := fnF 1 1 gL
abbrev mE : Stmt := top 11
theorem zR : aS ["many", "thing"] ["many", "thing"] (aG mE) := ⟨rfl, rfl, rfl, by decide +kernel, rfl, by decide +kernel, by decide +kernel⟩
def jR : SF := (bL (gX (aM eN (aB (aE 1) aJ)) (tJ leI ltI (fC (.int 0)) (aE 1) (aE 0))))
def fZ : FN := fnF 2 2 jR
abbrev eG : Stmt := top 12
theorem lC : aS ["many", "i", "j"] ["many", "i", "j"] (aG eG) := ⟨rfl, rfl, rfl, by decide +kernel, rfl, by decide +kernel, by decide +kernel⟩
def cG : SF := (bL (gX (aM fZ (aB (aE 0) (aB (aE 1) aJ))) (gX (aM fZ (aB (aE 0) (aB (aE 2) aJ))) (fOp (eqX true) (aE 1) (aE 2)))))
def bW : FN := fnF 3 3 cG
abbrev eL : Stmt := top 13
theorem mB : aS ["many", "thing"] ["many", "thing"] (aG eL) := ⟨rfl, rfl, rfl, by decide +kernel, rfl, by decide +kernel, by decide +kernel⟩
def cF : SF := (bL (gX (aM iP (aB (aE 1) (aB (fC (.int 3)) aJ))) (gX (aM bW (aB (aE 0) (aB (fOp ixF (aE 1) (fC (.int 0))) (aB (fOp ixF (aE 1) (fC (.int 1))) aJ)))) (fOp ltI (fOp ixF (aE 1) (fC (.int 0))) (fOp ixF (aE 1) (fC (.int 1)))))))
def bH : FN := fnF 2 2 cF
abbrev pL : Stmt := top 25
theorem GX : aS ["many", "thing"] ["many", "thing"] (aG pL) := ⟨rfl, rfl, rfl, by decide +kernel, rfl, by decide +kernel, by decide +kernel⟩
def jQ : SF := (bL (gX (aM bH (aB (aE 0) (aB (aE 1) aJ))) (aM eQ (aB (fOp ixF (aE 1) (fC (.int 2))) aJ))))
def iE : FN := fnF 2 2 jQ
abbrev gW : Stmt := top 24
theorem sc_kept_ties : aS ["many", "ties", "weights", "at", "row"] ["many", "ties"] (aG gW) := ⟨rfl, rfl, rfl, by decide +kernel, rfl, by decide +kernel, by decide +kernel⟩
def bO : SFX := (mW (HK (gOr (jX (gB (aM iE (aB (aE 0) (aB (aE 4) aJ))))) (gB (LY false (uW (aB (fOp ixF (aE 4) (fC (.int 0))) (aB (fOp ixF (aE 4) (fC (.int 1))) aJ))) (aE 2))))
 (mP "NoTie" cY (aB (aE 3) aJ))
 (liS bM))
 (liS (xA (aE 2) (uW (aB (fOp ixF (aE 4) (fC (.int 0))) (aB (fOp ixF (aE 4) (fC (.int 1))) aJ))) (aM fW (aB (fOp ixF (aE 4) (fC (.int 2))) aJ)))))
def iY : EF := (fLc [none, none, none] (fG (pZ (aE 2))) (qA 2 (dE (qA 2 (dE (hName 0) (dE (hName 1) qH))) (dE (hName 2) qH))) (gB (fOp gtI (fOp ixF (aE 2) (fC (.int 0))) (fC (.int 0)))) (cL (aB (aE 0) (aB (aE 1) (aB (aE 2) aJ)))))
def gK : SFX := (mW (HK (jX (gB (aM oH (aB (aE 1) aJ))))
 (mP "NoTie" cY (aB (fC (.int 0)) aJ))
 (liS bM))
 (mW (liS (cN sI (hName 2)))
 (mW (zJ (qW (aB (aE 1) aJ)) (qA 2 (dE (hName 3) (dE (hName 4) qH))) bO)
 (liS (bL (aM fW (aB iY aJ)))))))
def cJ : FX := fnX 2 5 gK
abbrev eR : Stmt := inClass (top 23) 0
theorem xX : aS ["self", "many", "ties"] ["self", "many", "ties"] (aG eR) := ⟨rfl, rfl, rfl, by decide +kernel, rfl, by decide +kernel, by decide +kernel⟩
def jF : EF := (fDc (.dt []) [none, none, none] (fG (HF "Web" "ties" (aE 0))) (qA 3 (dE (hName 0) (dE (hName 1) (dE (hName 2) qH)))) nU (uW (aB (aE 0) (aB (aE 1) aJ))) (aE 2))
def eK : SFX := (mW (HK (gOr (jX (gB (aM eN (aB (aE 1) aJ)))) (gOr (gB (fOp ltI (aE 1) (fC (.int 1)))) (gB (fOp gtI (aE 1) (fC (.int 40))))))
 (yH "NoPlace")
 (liS bM))
 (mW (liS (wK "Web" "many" (aE 0) (aE 1)))
 (mW (yW "Web" "ties" (aE 0) (DK cJ (liA (aB (aE 1) (aB (aE 2) aJ)))))
 (liS (wK "Web" "weights" (aE 0) jF)))))
def bE : FX := fnX 3 3 eK
abbrev iZ : Stmt := top 44
theorem nG : aS ["_law_error"] ["_law_error"] (aG iZ) := ⟨rfl, rfl, rfl, by decide +kernel, rfl, by decide +kernel, by decide +kernel⟩
def gY : SF := (bC (sIf (gOr (jX (gB (nB TB_CutError (some false) (aE 0)))) (jX (gB (nB TB_ValueError (some false) (aE 0)))))
 (bL (fC (.bool false)))
 bM)
 (bL (gX (tP (nB TB_NoLine (some false) (aE 0))) (gX (tP (nB TB_NoWeight (some false) (aE 0))) (tP (nB TB_TooMany (some false) (aE 0)))))))
def eT : FN := fnF 1 1 gY
abbrev jC : Stmt := top 43
theorem sc__law_found : aS ["_law_many", "_law_ties_here", "_law_found_here", "_law_error"] ["_law_many", "_law_ties_here"] (aG jC) := ⟨rfl, rfl, rfl, by decide +kernel, rfl, by decide +kernel, by decide +kernel⟩
def lE : SF := (cN (cL (aB (fC (.str "tie")) (aB (EG ["NoTie"] "at" (aE 3)) (aB (gX (aM eT (aB (aE 3) aJ)) (tP (nB TB_NoPlace (some false) (aE 3)))) aJ)))) (hName 2))
def kY : SF := (cN (cL (aB (fC (.str "place")) (aB (fC (.int 0)) (aB (gX (aM eT (aB (aE 3) aJ)) (tP (nB TB_NoTie (some false) (aE 3)))) aJ)))) (hName 2))
def fO : SFX := (FF (HV (sO (liE (fC (.str "web"))) (sO (FZ "Web" "many" (sL "Web" bE (aB (aE 0) (aB (aE 1) aJ)))) (liA (aB (fC (.bool true)) aJ))))) (hName 2))
def fM : SF := (bC (cN (fC .none) (hName 2))
 (bC (UL fO [⟨[("NoTie", false), ("NoPlace", true)], (some 3), kY⟩, ⟨[("NoTie", true), ("NoPlace", false)], (some 3), lE⟩])
 (bL (aE 2))))
def bP : FN := fnF 2 4 fM
abbrev gC : Stmt := top 34
theorem pU : aS ["_law_thing", "_law_low", "_law_most"] ["_law_thing", "_law_low", "_law_most"] (aG gC) := ⟨rfl, rfl, rfl, by decide +kernel, rfl, by decide +kernel, by decide +kernel⟩
def gT : SF := (bL (gX (rF "int" (aE 0)) (gX (tP (rF "bool" (aE 0))) (tJ leI leI (aE 1) (aE 0) (aE 2)))))
def cQ : FN := fnF 3 3 gT
abbrev iL : Stmt := top 33
theorem tL : aS ["_law_thing"] ["_law_thing"] (aG iL) := ⟨rfl, rfl, rfl, by decide +kernel, rfl, by decide +kernel, by decide +kernel⟩
def mT : SF := (bL (fOr (rF "list" (aE 0)) (rF "tuple" (aE 0))))
def dX : FN := fnF 1 1 mT
abbrev jG : Stmt := top 30
theorem sc__law_least : aS ["_law_above", "_law_below", "_law_one", "_law_other"] ["_law_above", "_law_below"] (aG jG) := ⟨rfl, rfl, rfl, by decide +kernel, rfl, by decide +kernel, by decide +kernel⟩
def lA : SF := (nR (gB (fOp gtI (aE 3) (fC (.int 0)))) (AZ 2 3 (aB (aE 3) (aB (fOp mR (aE 2) (aE 3)) aJ))))
def kJ : SF := (bC (cN (aE 0) (hName 2))
 (bC (cN (aE 1) (hName 3))
 (bC lA
 (bL (cL (aB (fOp vE (aE 0) (aE 2)) (aB (fOp vE (aE 1) (aE 2)) aJ)))))))
def fS : FN := fnF 2 4 kJ
abbrev eC : Stmt := top 35
theorem oQ : aS ["_law_thing"] ["_law_thing"] (aG eC) := ⟨rfl, rfl, rfl, by decide +kernel, rfl, by decide +kernel, by decide +kernel⟩
def fH : EF := (fLc [none] (fG (aE 0)) (hName 0) nU (gX (rF "int" (aE 0)) (tP (rF "bool" (aE 0)))))
def bR : SF := (bC (sIf (gOr (jX (gB (aM dX (aB (aE 0) aJ)))) (gB (fOp (eqX true) (aM gN (aB (aE 0) aJ)) (fC (.int 2)))))
 (bL (fC (.bool false)))
 bM)
 (bC (sIf (gOr (jX (gB (aM DA (aB fH aJ)))) (gOr (gB (fOp ltI (fOp ixF (aE 0) (fC (.int 0))) (fC (.int 0)))) (gB (fOp ltI (fOp ixF (aE 0) (fC (.int 1))) (fC (.int 1))))))
  (bL (fC (.bool false)))
  bM)
 (bL (fOp (eqX false) (aM fS (aB (fOp ixF (aE 0) (fC (.int 0))) (aB (fOp ixF (aE 0) (fC (.int 1))) aJ))) (cL (aB (fOp ixF (aE 0) (fC (.int 0))) (aB (fOp ixF (aE 0) (fC (.int 1))) aJ)))))))
def bG : FN := fnF 1 1 bR
abbrev fQ : Stmt := top 36
theorem oI : aS ["_law_thing"] ["_law_thing"] (aG fQ) := ⟨rfl, rfl, rfl, by decide +kernel, rfl, by decide +kernel, by decide +kernel⟩
def cM : SF := (bL (gX (aM bG (aB (aE 0) aJ)) (gX (fOp leI (fOp ixF (aE 0) (fC (.int 0))) (fOp pO (fC (.int 10)) (fC (.int 12)))) (fOp (eqX false) (fOp mR (fC (.int 55440)) (fOp ixF (aE 0) (fC (.int 1)))) (fC (.int 0))))))
def bS : FN := fnF 1 1 cM
abbrev fP : Stmt := top 42
theorem sc__law_first_bad : aS ["_law_many", "_law_ties_here", "_law_known", "_law_at", "_law_one"] ["_law_many", "_law_ties_here"] (aG fP) := ⟨rfl, rfl, rfl, by decide +kernel, rfl, by decide +kernel, by decide +kernel⟩
def aU : SF := (bC (sIf (gOr (jX (gB (aM dX (aB (aE 4) aJ)))) (gOr (gB (fOp (eqX true) (aM gN (aB (aE 4) aJ)) (fC (.int 3)))) (jX (gB (aM bS (aB (fOp ixF (aE 4) (fC (.int 2))) aJ))))))
 (bL (aE 3))
 bM)
 (bC (sIf (gOr (jX (gB (aM cQ (aB (fOp ixF (aE 4) (fC (.int 0))) (aB (fC (.int 0)) (aB (fOp rE (aE 0) (fC (.int 1))) aJ)))))) (jX (gB (aM cQ (aB (fOp ixF (aE 4) (fC (.int 1))) (aB (fOp eU (fOp ixF (aE 4) (fC (.int 0))) (fC (.int 1))) (aB (fOp rE (aE 0) (fC (.int 1))) aJ)))))))
  (bL (aE 3))
  bM)
 (bC (sIf (gB (fOp (inC false) (cL (aB (fOp ixF (aE 4) (fC (.int 0))) (aB (fOp ixF (aE 4) (fC (.int 1))) aJ))) (aE 2)))
  (bL (aE 3))
  bM)
 (EU (EO "list" mQ (aE 2) (aB (cL (aB (fOp ixF (aE 4) (fC (.int 0))) (aB (fOp ixF (aE 4) (fC (.int 1))) aJ))) aJ))))))
def eS : SF := (bC (cN (AS aJ) (hName 2))
 (bC (pB (qW (aB (aE 1) aJ)) (qA 2 (dE (hName 3) (dE (hName 4) qH))) aU)
 (bL (fC .none))))
def dA : FN := fnF 2 5 eS
abbrev kK : Stmt := top 45
theorem sc__law_told : aS ["_law_many", "_law_ties_here", "_law_at"] ["_law_many", "_law_ties_here"] (aG kK) := ⟨rfl, rfl, rfl, by decide +kernel, rfl, by decide +kernel, by decide +kernel⟩
def nD : EF := (cL (aB (fC (.str "place")) (aB (fC (.int 0)) (aB (fC (.bool true)) aJ))))
theorem uN (γ : Ga) (M : Sto) : nD γ M = some (.d (.tuple [(.str "place"), (.int 0), (.bool true)]), M) := rfl
def nK : EF := (cL (aB (fC (.str "tie")) (aB (fC (.int 0)) (aB (fC (.bool true)) aJ))))
theorem tM (γ : Ga) (M : Sto) : nK γ M = some (.d (.tuple [(.str "tie"), (.int 0), (.bool true)]), M) := rfl
def fJ : SF := (bC (sIf (jX (gB (aM cQ (aB (aE 0) (aB (fC (.int 1)) (aB (fC (.int 40)) aJ))))))
 (bL nD)
 bM)
 (bC (sIf (jX (gB (aM dX (aB (aE 1) aJ))))
  (bL nK)
  bM)
 (bC (cN (aM dA (aB (aE 0) (aB (aE 1) aJ))) (hName 2))
 (bC (sIf (gB (fOp (HA true) (aE 2) (fC .none)))
  (bL (cL (aB (fC (.str "tie")) (aB (aE 2) (aB (fC (.bool true)) aJ)))))
  bM)
 (bL (cL (aB (fC (.str "web")) (aB (aE 0) (aB (fC (.bool true)) aJ)))))))))
def cH : FN := fnF 2 3 fJ
abbrev iF : Stmt := top 27
theorem sc__law_stream : aS ["_law_script", "_law_k", "_law_cell", "_law_mixed"] ["_law_script", "_law_k"] (aG iF) := ⟨rfl, rfl, rfl, by decide +kernel, rfl, by decide +kernel, by decide +kernel⟩
def eW : SF := (bC (sIf (gB (fOp ltI (aE 1) (aM gN (aB (aE 0) aJ))))
 (bC (cN (fOp ixF (aE 0) (aE 1)) (hName 2))
 (bC (cN (fOp eU (fOp eU (fOp mR (aE 2) (fC (.int 2147483629))) (fOp AG (aE 1) (aE 1))) (fC (.int 1))) (hName 3))
 (bC (sIf (gB (fOp ltI (aE 2) (fOp pO (fC (.int 10)) (fC (.int 18)))))
  (cN (fC (.int 0)) (hName 2))
  bM)
 (bL (AS (aB (aE 2) (aB (aE 3) aJ)))))))
  bM)
 (bL (AS (aB (fC (.int 0)) (aB (fOp eU (fOp AG (aE 1) (aE 1)) (fC (.int 11))) aJ)))))
def dU : FN := fnF 2 4 eW
abbrev kI : Stmt := top 28
theorem sc__law_take : aS ["_law_stream_here", "_law_most", "_law_digit"] ["_law_stream_here", "_law_most"] (aG kI) := ⟨rfl, rfl, rfl, by decide +kernel, rfl, by decide +kernel, by decide +kernel⟩
def iS : SF := (bC (sIf (gB (fOp (eqX false) (fOp ixF (aE 0) (fC (.int 0))) (fC (.int 0))))
 (bC (cN (fOp mR (fOp eU (fOp AG (fOp ixF (aE 0) (fC (.int 1))) (fC (.int 48271))) (fC (.int 12345))) (fC (.int 2147483647))) (hSub (aE 0) (fC (.int 1)) yD))
 (bL (fOp mR (fOp mR (fOp AG (fOp ixF (aE 0) (fC (.int 1))) (fOp ixF (aE 0) (fC (.int 1)))) (fC (.int 2147483629))) (aE 1))))
  bM)
 (bC (cN (fOp mR (fOp ixF (aE 0) (fC (.int 0))) (aE 1)) (hName 2))
 (bC (cN (fOp vE (fOp ixF (aE 0) (fC (.int 0))) (aE 1)) (hSub (aE 0) (fC (.int 0)) yD))
 (bL (aE 2)))))
def aR : FN := fnF 2 3 iS
abbrev jU : Stmt := top 29
theorem xQ : aS ["_law_stream_here", "_law_some"] ["_law_stream_here", "_law_some"] (aG jU) := ⟨rfl, rfl, rfl, by decide +kernel, rfl, by decide +kernel, by decide +kernel⟩
def lJ : SF := (bL (fOp ixF (aE 1) (aM aR (aB (aE 0) (aB (aM gN (aB (aE 1) aJ)) aJ)))))
def dF : FN := fnF 2 2 lJ
abbrev iI : Stmt := top 31
theorem sc__law_weight : aS ["_law_stream_here", "_law_kind", "_law_below", "_law_above"] ["_law_stream_here"] (aG iI) := ⟨rfl, rfl, rfl, by decide +kernel, rfl, by decide +kernel, by decide +kernel⟩
def kU : EF := (gZ (aB (cL (aB (fC (.int 1)) (aB (fC (.int 1)) aJ))) (aB (cL (aB (fC (.int 1)) (aB (fC (.int 1)) aJ))) (aB (cL (aB (fC (.int 2)) (aB (fC (.int 1)) aJ))) (aB (cL (aB (fC (.int 1)) (aB (fC (.int 2)) aJ))) (aB (cL (aB (fC (.int 3)) (aB (fC (.int 4)) aJ))) (aB (cL (aB (fC (.int 0)) (aB (fC (.int 1)) aJ))) aJ)))))))
def kS : EF := (gZ (aB (fC (.int 1)) (aB (fC (.int 2)) (aB (fC (.int 3)) (aB (fC (.int 5)) (aB (fC (.int 7)) (aB (fC (.int 8)) (aB (fC (.int 9)) (aB (fC (.int 11)) (aB (fC (.int 12)) (aB (fC (.int 16)) (aB (fC (.int 35)) (aB (fC (.int 99)) (aB (fC (.int 720)) (aB (fC (.int 5040)) (aB (fC (.int 27720)) (aB (fC (.int 55440)) aJ)))))))))))))))))
def eY : SF := (bC (cN (aM aR (aB (aE 0) (aB (fC (.int 8)) aJ))) (hName 1))
 (bC (sIf (gB (fOp ltI (aE 1) (fC (.int 6))))
  (bL (fOp ixF kU (aE 1)))
  bM)
 (bC (cN (aM dF (aB (aE 0) (aB kS aJ))) (hName 2))
 (bC (cN (aM aR (aB (aE 0) (aB (fC (.int 1000)) aJ))) (hName 3))
 (bC (sIf (gB (fOp (eqX false) (aE 1) (fC (.int 7))))
  (cN (fOp ixF (gZ (aB (fOp pO (fC (.int 10)) (fC (.int 12))) (aB (fOp rE (fOp pO (fC (.int 10)) (fC (.int 12))) (fC (.int 1))) (aB (fC (.int 1)) (aB (fOp eU (fOp pO (fC (.int 10)) (fC (.int 9))) (aM aR (aB (aE 0) (aB (fC (.int 1000)) aJ)))) aJ))))) (aM aR (aB (aE 0) (aB (fC (.int 4)) aJ)))) (hName 3))
  bM)
 (bL (aM fS (aB (aE 3) (aB (aE 2) aJ)))))))))
def bX : FN := fnF 1 4 eY
abbrev kM : Stmt := top 39
theorem sc__law_ties : aS ["_law_stream_here", "_law_many", "_law_share", "_law_found_here", "_law_j", "_law_i", "_law_at"] ["_law_stream_here", "_law_many"] (aG kM) := ⟨rfl, rfl, rfl, by decide +kernel, rfl, by decide +kernel, by decide +kernel⟩
def dY : SF := (sIf (gB (fOp ltI (aM aR (aB (aE 0) (aB (fC (.int 4)) aJ))) (aE 2)))
 (bC (cN (aM aR (aB (aE 0) (aB (fOp eU (aM gN (aB (aE 3) aJ)) (fC (.int 1))) aJ))) (hName 6))
 (cN (fOp eU (fOp eU (fSl (aE 3) cU (gP (aE 6))) (gZ (aB (cL (aB (aE 5) (aB (aE 4) (aB (aM bX (aB (aE 0) aJ)) aJ)))) aJ))) (fSl (aE 3) (gP (aE 6)) cU)) (hName 3)))
  bM)
def dR : SF := (pB (kR (aB (aE 4) aJ)) (hName 5) dY)
def mG : SF := (bC (cN (aM aR (aB (aE 0) (aB (fC (.int 4)) aJ))) (hName 2))
 (bC (cN (gZ aJ) (hName 3))
 (bC (pB (kR (aB (aE 1) aJ)) (hName 4) dR)
 (bL (aE 3)))))
def iN : FN := fnF 2 7 mG
abbrev jV : Stmt := top 38
theorem sc__law_bent : aS ["_law_stream_here", "_law_row", "_law_place", "_law_kind", "_law_some"] ["_law_stream_here", "_law_row"] (aG jV) := ⟨rfl, rfl, rfl, by decide +kernel, rfl, by decide +kernel, by decide +kernel⟩
def mX : EF := (gZ (aB (fC .none) (aB (fC (.bool true)) (aB (fC (.bool false)) (aB (fUn wO (fC (.int 1))) (aB (fC (.int 0)) (aB (fC (.int 1)) (aB (fC (.int 40)) (aB (fOp eU (fOp pO (fC (.int 10)) (fC (.int 12))) (fC (.int 1))) (aB (fC (.str "")) (aB (fC (.str "1")) (aB (cL aJ) (aB (cL (aB (fC (.int 1)) (aB (fC (.int 2)) aJ))) (aB (cL (aB (fC (.int 2)) (aB (fC (.int 2)) aJ))) (aB (cL (aB (fC (.int 0)) (aB (fC (.int 2)) aJ))) (aB (cL (aB (fC (.int 1)) (aB (fC (.int 13)) aJ))) (aB yE aJ)))))))))))))))))
def gM : SF := (bC (cN (aM aR (aB (aE 0) (aB (aM gN (aB (aE 1) aJ)) aJ))) (hName 2))
 (bC (cN (aM aR (aB (aE 0) (aB (fC (.int 4)) aJ))) (hName 3))
 (bC (sIf (gB (fOp (eqX false) (aE 3) (fC (.int 0))))
  (bL (fOp eU (fSl (aE 1) cU (gP (aE 2))) (fSl (aE 1) (gP (fOp eU (aE 2) (fC (.int 1)))) cU)))
  bM)
 (bC (sIf (gB (fOp (eqX false) (aE 3) (fC (.int 1))))
  (bL (fOp eU (fOp eU (fSl (aE 1) cU (gP (aE 2))) (cL (aB (fOp ixF (aE 1) (aE 2)) aJ))) (fSl (aE 1) (gP (aE 2)) cU)))
  bM)
 (bC (cN mX (hName 4))
 (bL (fOp eU (fOp eU (fSl (aE 1) cU (gP (aE 2))) (cL (aB (fOp ixF (aE 4) (aM aR (aB (aE 0) (aB (fC (.int 16)) aJ)))) aJ))) (fSl (aE 1) (gP (fOp eU (aE 2) (fC (.int 1)))) cU))))))))
def eJ : FN := fnF 2 5 gM
abbrev iT : Stmt := top 32
theorem sc__law_any : aS ["_law_stream_here", "_law_script", "_law_depth", "_law_kind", "_law_some"] ["_law_stream_here", "_law_script", "_law_depth"] (aG iT) := ⟨rfl, rfl, rfl, by decide +kernel, rfl, by decide +kernel, by decide +kernel⟩
def oU : EF := (gZ (aB (fC (.int 0)) (aB (fC (.int 1)) (aB (fC (.int 2)) (aB (fC (.int 3)) (aB (fUn wO (fC (.int 1))) (aB (fC (.int 40)) (aB (fC (.int 55440)) aJ))))))))
def oK : EF := (gZ (aB (fC (.bool true)) (aB (fC (.bool false)) (aB (fC .none) aJ))))
def oJ : EF := (gZ (aB (fC (.str "")) (aB (fC (.str "1")) (aB (fC (.str "1/2")) (aB (fC (.str "place")) (aB (fC (.str "tie")) (aB (fC (.str "ab")) aJ)))))))
def oG (self : FN) : EF := (fLc [some 0, some 1, some 2, none] (kR (aB (aM aR (aB (aE 0) (aB (fC (.int 4)) aJ))) aJ)) (hName 3) nU (aM self (aB (aE 0) (aB (aE 1) (aB (fOp rE (aE 2) (fC (.int 1))) aJ)))))
def cD (self : FN) : SF := (bC (cN (aM aR (aB (aE 0) (aB (fOp rE (fC (.int 9)) (fOp AG (fC (.int 3)) (aM MB (aB (fOp (eqX false) (aE 2) (fC (.int 0))) aJ)))) aJ))) (hName 3))
 (bC (sIf (gB (fOp (eqX false) (aE 3) (fC (.int 0))))
  (bL (fIf (gB (fOp (eqX true) (aE 1) (gZ aJ))) (fOp rE (fOp mR (fOp ixF (aE 1) (fC (.int 0))) (fOp pO (fC (.int 10)) (fC (.int 40)))) (fOp pO (fC (.int 10)) (fC (.int 39)))) (fUn wO (fC (.int 1)))))
  bM)
 (bC (sIf (gB (fOp (eqX false) (aE 3) (fC (.int 1))))
  (bL (fOp ixF oU (aM aR (aB (aE 0) (aB (fC (.int 7)) aJ)))))
  bM)
 (bC (sIf (gB (fOp (eqX false) (aE 3) (fC (.int 2))))
  (bL (fOp ixF oK (aM aR (aB (aE 0) (aB (fC (.int 3)) aJ)))))
  bM)
 (bC (sIf (gB (fOp ltI (aE 3) (fC (.int 6))))
  (bL (fOp ixF oJ (aM aR (aB (aE 0) (aB (fC (.int 6)) aJ)))))
  bM)
 (bC (cN (oG self) (hName 4))
 (bC (sIf (gB (fOp (eqX false) (aE 3) (fC (.int 6))))
  (bL (aM fW (aB (aE 4) aJ)))
  bM)
 (bC (sIf (gB (fOp (eqX false) (aE 3) (fC (.int 7))))
  (bL (aE 4))
  bM)
 (bL (BC [((fC (.int 0)), (aE 4)), ((fC (.str "a")), (fC .none))]))))))))))
def cB : Nat -> FN
 | 0 => fun _ _ => none
 | n + 1 => fnF 3 5 (cD (cB n))
abbrev gU : Stmt := top 41
theorem sc__law_bad_tie : aS ["_law_stream_here", "_law_script", "_law_many", "_law_ties_here", "_law_one", "_law_kind", "_law_weights"] ["_law_stream_here", "_law_script", "_law_many", "_law_ties_here"] (aG gU) := ⟨rfl, rfl, rfl, by decide +kernel, rfl, by decide +kernel, by decide +kernel⟩
def gA : EF := (cL (aB (fC (.int 0)) (aB (fC (.int 1)) (aB (cL (aB (fC (.int 1)) (aB (fC (.int 1)) aJ))) aJ))))
theorem iQ (γ : Ga) (M : Sto) : gA γ M = some (.d (.tuple [(.int 0), (.int 1), (.tuple [(.int 1), (.int 1)])]), M) := rfl
def fY : EF := (gZ (aB (cL (aB (fC (.int 2)) (aB (fC (.int 2)) aJ))) (aB (cL (aB (fC (.int 0)) (aB (fC (.int 2)) aJ))) (aB (cL (aB (fC (.int 1)) (aB (fC (.int 13)) aJ))) (aB (cL (aB (fOp eU (fOp pO (fC (.int 10)) (fC (.int 12))) (fC (.int 1))) (aB (fC (.int 1)) aJ))) (aB (cL (aB (fUn wO (fC (.int 1))) (aB (fC (.int 1)) aJ))) (aB (cL (aB (fC (.bool true)) (aB (fC (.int 1)) aJ))) (aB (fC (.int 1)) aJ))))))))
def iG : SF := (bC (cN gA (hName 4))
 (bC (sIf (gB (fOp (eqX true) (aE 3) (gZ aJ)))
  (cN (aM dF (aB (aE 0) (aB (aE 3) aJ))) (hName 4))
  bM)
 (bC (cN (aM aR (aB (aE 0) (aB (fC (.int 6)) aJ))) (hName 5))
 (bC (sIf (gB (fOp (eqX false) (aE 5) (fC (.int 0))))
  (bL (aM eJ (aB (aE 0) (aB (aE 4) aJ))))
  bM)
 (bC (sIf (gB (fOp (eqX false) (aE 5) (fC (.int 1))))
  (bL (cL (aB (fOp ixF (aE 4) (fC (.int 1))) (aB (fOp ixF (aE 4) (fC (.int 0))) (aB (fOp ixF (aE 4) (fC (.int 2))) aJ)))))
  bM)
 (bC (sIf (gB (fOp (eqX false) (aE 5) (fC (.int 2))))
  (bL (cL (aB (fOp ixF (aE 4) (fC (.int 0))) (aB (fOp ixF (aE 4) (fC (.int 1))) (aB (aM bX (aB (aE 0) aJ)) aJ)))))
  bM)
 (bC (sIf (gB (fOp (eqX false) (aE 5) (fC (.int 3))))
  (bL (cL (aB (fOp ixF (aE 4) (fC (.int 0))) (aB (aE 2) (aB (fOp ixF (aE 4) (fC (.int 2))) aJ)))))
  bM)
 (bC (sIf (gB (fOp (eqX false) (aE 5) (fC (.int 4))))
  (bC (cN fY (hName 6))
 (bL (cL (aB (fOp ixF (aE 4) (fC (.int 0))) (aB (fOp ixF (aE 4) (fC (.int 1))) (aB (aM dF (aB (aE 0) (aB (aE 6) aJ))) aJ))))))
  bM)
 (bL (aM (cB 4) (aB (aE 0) (aB (aE 1) (aB (fC (.int 2)) aJ)))))))))))))
def dD : FN := fnF 4 7 iG
abbrev gF : Stmt := top 37
theorem nM : aS ["_law_thing"] ["_law_thing"] (aG gF) := ⟨rfl, rfl, rfl, by decide +kernel, rfl, by decide +kernel, by decide +kernel⟩
def lN (self : FN) : EF := (fLc [none] (fG (aE 0)) (hName 0) nU (aM self (aB (aE 0) aJ)))
def jZ (self : FN) : SF := (bC (sIf (gB (rF "tuple" (aE 0)))
 (bL (lN self))
 bM)
 (bL (aE 0)))
def bY : Nat -> FN
 | 0 => fun _ _ => none
 | n + 1 => fnF 1 1 (jZ (bY n))
abbrev BK : Stmt := top 46
theorem sc_law : aS ["_law_script", "_law_many", "_law_k", "_law_stream_here", "_law_ties_here", "_law_at", "_law_one", "_law_two", "_law_thing"] ["_law_script"] (aG BK) := ⟨rfl, rfl, rfl, by decide +kernel, rfl, by decide +kernel, by decide +kernel⟩
def EN : EF := (gZ (aB (fC (.int 0)) (aB (fC (.int 1)) (aB (fC (.int 40)) (aB (fC (.int 41)) (aB (fUn wO (fC (.int 1))) (aB (fC (.bool true)) (aB (fC (.bool false)) (aB (fC .none) (aB (fC (.str "3")) (aB (cL (aB (fC (.int 3)) aJ)) (aB (gZ aJ) (aB (fOp pO (fC (.int 10)) (fC (.int 30))) (aB yE aJ))))))))))))))
def ET : EF := (gZ (aB (fC (.int 7)) aJ))
theorem NC (γ : Ga) (M : Sto) : ET γ M = some (.d (.list [(.int 7)]), M) := rfl
def FA : EF := (gZ (aB (fC (.int 7)) aJ))
theorem OD (γ : Ga) (M : Sto) : FA γ M = some (.d (.list [(.int 7)]), M) := rfl
def rW : SF := (sIf (gOr (gB (fOp (eqX true) (aM bP (aB (aE 1) (aB (cL aJ) aJ))) (aM cH (aB (aE 1) (aB (cL aJ) aJ))))) (gB (fOp (eqX true) (aM bP (aB (aE 1) (aB ET aJ))) (aM cH (aB (aE 1) (aB FA aJ))))))
 (bL (fC (.bool false)))
 bM)
def rX : SF := (sIf (gB (fOp (eqX true) (aM bP (aB (aE 1) (aB (aE 8) aJ))) (aM cH (aB (aE 1) (aB (aE 8) aJ)))))
 (bL (fC (.bool false)))
 bM)
def rP : SF := (bC (cN (aM dU (aB (aE 0) (aB (aE 2) aJ))) (hName 3))
 (bC (cN (fOp eU (fC (.int 1)) (aM aR (aB (aE 3) (aB (fC (.int 9)) aJ)))) (hName 1))
 (bC (cN (aM iN (aB (aE 3) (aB (aE 1) aJ))) (hName 4))
 (bC (cN (aM aR (aB (aE 3) (aB (fOp eU (aM gN (aB (aE 4) aJ)) (fC (.int 1))) aJ))) (hName 5))
 (bC (cN (fOp eU (fOp eU (fSl (aE 4) cU (gP (aE 5))) (gZ (aB (aM dD (aB (aE 3) (aB (aE 0) (aB (aE 1) (aB (aE 4) aJ))))) aJ))) (fSl (aE 4) (gP (aE 5)) cU)) (hName 6))
 (bC (cN (fOp eU (aE 6) (gZ (aB (aM dD (aB (aE 3) (aB (aE 0) (aB (aE 1) (aB (aE 4) aJ))))) aJ))) (hName 7))
 (bC (pB (fG (gZ (aB (aE 6) (aB (aM fW (aB (aE 7) aJ)) (aB (aM (bY 6) (aB (aM fW (aB (aE 7) aJ)) aJ)) (aB (aM (cB 4) (aB (aE 3) (aB (aE 0) (aB (fC (.int 3)) aJ)))) aJ)))))) (hName 8) rX)
 (bC (cN (aM (cB 4) (aB (aE 3) (aB (aE 0) (aB (fC (.int 2)) aJ)))) (hName 8))
 (sIf (gB (fOp (eqX true) (aM bP (aB (aE 8) (aB (aE 4) aJ))) (aM cH (aB (aE 8) (aB (aE 4) aJ)))))
  (bL (fC (.bool false)))
  bM)))))))))
def JU : SF := (bC (pB (fG EN) (hName 1) rW)
 (bC (pB (kR (aB (fC (.int 5)) aJ)) (hName 2) rP)
 (bL (fC (.bool true)))))
def F_law : FN := fnF 1 9 JU
structure Txt (K : PySem.W.Frag) (mg : Str -> Option Value) : Prop where
 hB : Free mg ["ValueError", "all", "bool", "enumerate", "int", "isinstance", "len", "list", "range", "sorted", "tuple"]
 c_MOST_ABOVE : ∃ t : Tok, mg "MOST_ABOVE" = some (.int 1000000000000 t)
 c_BELOW : ∃ t : Tok, mg "BELOW" = some (.int 55440 t)
 c_MOST_PLACES : ∃ t : Tok, mg "MOST_PLACES" = some (.int 40 t)
 m_NoTie : mg "NoTie" = some (.ref (aP K "NoTie"))
 xc_NoTie : XC K (aP K "NoTie")
 m_Web : mg "Web" = some (.ref (aP K "Web"))
 cl_Web : Cls K (aP K "Web")
 na_Web_many : NoAttr K (aP K "Web") "many"
 m_NoPlace : mg "NoPlace" = some (.ref (aP K "NoPlace"))
 ex_NoPlace_NoTie : PySem.W.exmOne K (.ref (aP K "NoPlace")) (.ref (aP K "NoTie")) = some false
 ex_NoTie_NoTie : PySem.W.exmOne K (.ref (aP K "NoTie")) (.ref (aP K "NoTie")) = some true
 xc_NoPlace : XC K (aP K "NoPlace")
 kg_NoPlace : hZ K (.ref (aP K "NoPlace")) TB_NoPlace = true
 kn_NoPlace : PySem.W.kitOne K (.type "NoneType") (.ref (aP K "NoPlace")) = some false
 xs_NoTie_at : pJ K (aP K "NoTie") "at"
 ex_NoPlace_NoPlace : PySem.W.exmOne K (.ref (aP K "NoPlace")) (.ref (aP K "NoPlace")) = some true
 ex_NoTie_NoPlace : PySem.W.exmOne K (.ref (aP K "NoTie")) (.ref (aP K "NoPlace")) = some false
 kg_NoTie : hZ K (.ref (aP K "NoTie")) TB_NoTie = true
 kn_NoTie : PySem.W.kitOne K (.type "NoneType") (.ref (aP K "NoTie")) = some false
 kg_ValueError : hZ K (.type "ValueError") TB_ValueError = true
 kn_ValueError : PySem.W.kitOne K (.type "NoneType") (.type "ValueError") = some false
 m_CutError : mg "CutError" = some (.ref (aP K "CutError"))
 kg_CutError : hZ K (.ref (aP K "CutError")) TB_CutError = true
 kn_CutError : PySem.W.kitOne K (.type "NoneType") (.ref (aP K "CutError")) = some false
 m_TooMany : mg "TooMany" = some (.ref (aP K "TooMany"))
 kg_TooMany : hZ K (.ref (aP K "TooMany")) TB_TooMany = true
 kn_TooMany : PySem.W.kitOne K (.type "NoneType") (.ref (aP K "TooMany")) = some false
 m_NoWeight : mg "NoWeight" = some (.ref (aP K "NoWeight"))
 kg_NoWeight : hZ K (.ref (aP K "NoWeight")) TB_NoWeight = true
 kn_NoWeight : PySem.W.kitOne K (.type "NoneType") (.ref (aP K "NoWeight")) = some false
 m_NoLine : mg "NoLine" = some (.ref (aP K "NoLine"))
 kg_NoLine : hZ K (.ref (aP K "NoLine")) TB_NoLine = true
 kn_NoLine : PySem.W.kitOne K (.type "NoneType") (.ref (aP K "NoLine")) = some false
 kp_NoTie : PySem.W.keepIn K (.ref (aP K "NoTie")) = true
 xt_NoTie : xM K (aP K "NoTie") = true
 md_NoTie : MDef K "NoTie" "__init__" "NoTie.__init__" eP
 q_NoPlace : PySem.W.excIn K (aP K "NoPlace") bmV "ValueError.__new__" = true
 na_Web_ties : NoAttr K (aP K "Web") "ties"
 na_Web_weights : NoAttr K (aP K "Web") "weights"
 mm_Web__init : MDef K "Web" "__init__" "Web.__init__" eR
 mk_Web : PySem.W.makesIn K (aP K "Web") = true
 kp_Web : PySem.W.keepIn K (.ref (aP K "Web")) = true
 d_is_whole : Def K mg "is_whole" lD
 d_is_row : Def K mg "is_row" pS
 d_common : Def K mg "common" pN
 d_is_row_of : Def K mg "is_row_of" kF
 d_has_amount_numbers : Def K mg "has_amount_numbers" eA
 d_is_in_parts : Def K mg "is_in_parts" iK
 d_is_weight : Def K mg "is_weight" kD
 d_is_place : Def K mg "is_place" mE
 d_are_unlike_places : Def K mg "are_unlike_places" eG
 d_is_between_places : Def K mg "is_between_places" eL
 d_is_tie : Def K mg "is_tie" pL
 d_kept_ties : Def K mg "kept_ties" gW
 d__law_alone : Def K mg "_law_alone" iZ
 d__law_found : Def K mg "_law_found" jC
 d__law_is_whole : Def K mg "_law_is_whole" gC
 d__law_is_row : Def K mg "_law_is_row" iL
 d__law_least : Def K mg "_law_least" jG
 d__law_is_amount : Def K mg "_law_is_amount" eC
 d__law_is_weight : Def K mg "_law_is_weight" fQ
 d__law_first_bad : Def K mg "_law_first_bad" fP
 d__law_told : Def K mg "_law_told" kK
 d__law_stream : Def K mg "_law_stream" iF
 d__law_take : Def K mg "_law_take" kI
 d__law_pick : Def K mg "_law_pick" jU
 d__law_weight : Def K mg "_law_weight" iI
 d__law_ties : Def K mg "_law_ties" kM
 d__law_bent : Def K mg "_law_bent" jV
 d__law_any : Def K mg "_law_any" iT
 d__law_bad_tie : Def K mg "_law_bad_tie" gU
 d__law_lists : Def K mg "_law_lists" gF
 d_law : Def K mg "law" BK
section
variable {P : Program} {w : World} {K : PySem.W.Frag} {mg : Str -> Option Value} {base : Heap}
theorem fE (T : Txt K mg) : ∀ nm ∈ (["NoTie", "NoPlace"] : List Str), XC K (aP K nm) := (zF T.xc_NoTie (zF T.xc_NoPlace PR))
theorem iV (T : Txt K mg) : Callee P w K mg base 1 "is_whole" ["thing"] (spM K eN) :=
 T.d_is_whole.okG (N := ["thing"]) (ps := ["thing"]) (k := 0) (b := tV) zK (fun _ _ _ _ _ _ us hl => match us, hl with | [_], _ => rfl) fun f cdv A outer s H E hr =>
  (aO (aQ (cO (kH (T := "int") (fun _ => rfl) (by decide) (aC 0) (fun _ => aW) (fun _ => T.hB.of "isinstance") (fun _ => T.hB.of "int") boot_int) (eI (iH (kH (T := "bool") (fun _ => rfl) (by decide) (aC 0) (fun _ => aW) (fun _ => T.hB.of "isinstance") (fun _ => T.hB.of "bool") boot_bool))))))
theorem wD (T : Txt K mg) : Callee P w K mg base 1 "is_row" ["thing"] (spM K oH) :=
 T.d_is_row.okG (N := ["thing"]) (ps := ["thing"]) (k := 0) (b := AJ) FQ (fun _ _ _ _ _ _ us hl => match us, hl with | [_], _ => rfl) fun f cdv A outer s H E hr =>
  (aO (aQ (SJ (T := "list") (U := "tuple") (fun _ => rfl) (by decide) (by decide) (aC 0) (fun _ => aW) (fun _ => T.hB.of "isinstance") (fun _ => T.hB.of "list") (fun _ => T.hB.of "tuple") boot_list boot_tuple)))
theorem lZ (T : Txt K mg) : uB P w K mg base 1 "NoTie" ["self", "at"] (spM K cY) :=
 T.md_NoTie.okIX (N := ["self", "at"]) (ps := ["self", "at"]) (k := 0) (b := jD) T.xt_NoTie T.kp_NoTie uH (fun _ _ _ _ _ _ us hl => match us, hl with | [_, _], _ => rfl) fun f cdv A outer s H E hr =>
  (aO (OU (nm := "NoTie") (fun _ => rfl) T.xs_NoTie_at (aC 0) (aC 1)))
theorem GS (T : Txt K mg) : Callee P w K mg base 1 "common" ["one", "other"] (spM K tZ) :=
 T.d_common.okG (N := ["one", "other"]) (ps := ["one", "other"]) (k := 0) (b := yU) sc_common (fun _ _ _ _ _ _ us hl => match us, hl with | [_, _], _ => rfl) fun f cdv A outer s H E hr =>
  (aL (AA (fun _ => PassesOwn.never) (aAT (fun _ => rfl) (aC 1)) (aO (JF 0 1 (fun _ => rfl) (fun _ => sc_common.nd) (aA (aC 1) (aA (bA nL (aC 0) (aC 1)) aF)))))
   (aO (aQ (aC 0))))
theorem oX (T : Txt K mg) : Callee P w K mg base 2 "is_row_of" ["thing", "length"] (spM K iP) :=
 T.d_is_row_of.okG (N := ["thing", "length"]) (ps := ["thing", "length"]) (k := 1) (b := qP) xP (fun _ _ _ _ _ _ us hl => match us, hl with | [_, _], _ => rfl) fun f cdv A outer s H E hr =>
  (aO (aQ (cO (aK (fun _ => wD T) hr.le (aA (aC 0) aF)) (eI (gR (jM (fun _ => rfl) (fun _ => hr.units)) (fT qR (fun _ => T.hB.of "len") boot_len (aA (aC 0) aF)) (aC 1))))))
theorem kW (T : Txt K mg) : Callee P w K mg base 3 "has_amount_numbers" ["thing"] (spM K bT) :=
 T.d_has_amount_numbers.okG (N := ["thing"]) (ps := ["thing"]) (k := 2) (b := cA) kX (fun _ _ _ _ _ _ us hl => match us, hl with | [_], _ => rfl) fun f cdv A outer s H E hr =>
  (aL (bZ (uR (iO (dZ (dG (aK (fun _ => oX T) hr.le (aA (aC 0) (aA aD aF))))) (iO (dZ (dG (aK (fun _ => iV T) hr.le (aA (aZ bU (aC 0) aD) aF)))) (iX (dZ (dG (aK (fun _ => iV T) hr.le (aA (aZ bU (aC 0) aD) aF))))))))
   (aO (aQ eZ))
   bF)
   (aO (aQ (cO (gR aBl (aZ bU (aC 0) aD) aD) (eI (gR aBl (aZ bU (aC 0) aD) aD))))))
theorem uO (T : Txt K mg) : Callee P w K mg base 4 "is_in_parts" ["thing"] (spM K cK) :=
 T.d_is_in_parts.okG (N := ["thing"]) (ps := ["thing"]) (k := 3) (b := dW) sX (fun _ _ _ _ _ _ us hl => match us, hl with | [_], _ => rfl) fun f cdv A outer s H E hr =>
  (aO (aQ (cO (aK (fun _ => kW T) hr.le (aA (aC 0) aF)) (cO (gR (jM (fun _ => rfl) (fun _ => hr.units)) (bA nL (sF (fun _ => T.c_BELOW)) (aZ bU (aC 0) aD)) aD) (eI (gR (jM (fun _ => rfl) (fun _ => hr.units)) (aK (fun _ => GS T) hr.le (aA (aZ bU (aC 0) aD) (aA (aZ bU (aC 0) aD) aF))) aD))))))
theorem xR (T : Txt K mg) : Callee P w K mg base 5 "is_weight" ["thing"] (spM K eQ) :=
 T.d_is_weight.okG (N := ["thing"]) (ps := ["thing"]) (k := 4) (b := gL) xT (fun _ _ _ _ _ _ us hl => match us, hl with | [_], _ => rfl) fun f cdv A outer s H E hr =>
  (aO (aQ (cO (aK (fun _ => uO T) hr.le (aA (aC 0) aF)) (eI (gR NM (aZ bU (aC 0) aD) (sF (fun _ => T.c_MOST_ABOVE)))))))
theorem qN (T : Txt K mg) : Callee P w K mg base 2 "is_place" ["many", "thing"] (spM K fZ) :=
 T.d_is_place.okG (N := ["many", "thing"]) (ps := ["many", "thing"]) (k := 1) (b := jR) zR (fun _ _ _ _ _ _ us hl => match us, hl with | [_, _], _ => rfl) fun f cdv A outer s H E hr =>
  (aO (aQ (cO (aK (fun _ => iV T) hr.le (aA (aC 1) aF)) (eI (zX NM uX aD (aC 1) (aC 0))))))
theorem lL (T : Txt K mg) : Callee P w K mg base 3 "are_unlike_places" ["many", "i", "j"] (spM K bW) :=
 T.d_are_unlike_places.okG (N := ["many", "i", "j"]) (ps := ["many", "i", "j"]) (k := 2) (b := cG) lC (fun _ _ _ _ _ _ us hl => match us, hl with | [_, _, _], _ => rfl) fun f cdv A outer s H E hr =>
  (aO (aQ (cO (aK (fun _ => qN T) hr.le (aA (aC 0) (aA (aC 1) aF))) (cO (aK (fun _ => qN T) hr.le (aA (aC 0) (aA (aC 2) aF))) (eI (gR (xF (fun _ => rfl) (fun _ => hr.units)) (aC 1) (aC 2)))))))
theorem lM (T : Txt K mg) : Callee P w K mg base 4 "is_between_places" ["many", "thing"] (spM K bH) :=
 T.d_is_between_places.okG (N := ["many", "thing"]) (ps := ["many", "thing"]) (k := 3) (b := cF) mB (fun _ _ _ _ _ _ us hl => match us, hl with | [_, _], _ => rfl) fun f cdv A outer s H E hr =>
  (aO (aQ (cO (aK (fun _ => oX T) hr.le (aA (aC 1) (aA aD aF))) (cO (aK (fun _ => lL T) hr.le (aA (aC 0) (aA (aZ bU (aC 1) aD) (aA (aZ bU (aC 1) aD) aF)))) (eI (gR uX (aZ bU (aC 1) aD) (aZ bU (aC 1) aD)))))))
theorem HB (T : Txt K mg) : Callee P w K mg base 6 "is_tie" ["many", "thing"] (spM K iE) :=
 T.d_is_tie.okG (N := ["many", "thing"]) (ps := ["many", "thing"]) (k := 5) (b := jQ) GX (fun _ _ _ _ _ _ us hl => match us, hl with | [_, _], _ => rfl) fun f cdv A outer s H E hr =>
  (aO (aQ (cO (aK (fun _ => lM T) hr.le (aA (aC 0) (aA (aC 1) aF))) (eI (aK (fun _ => xR T) hr.le (aA (aZ bU (aC 1) aD) aF))))))
theorem yI (T : Txt K mg) : rO P w K mg base 7 "kept_ties" ["many", "ties"] (spX K cJ) :=
 T.d_kept_ties.okX (N := ["many", "ties", "weights", "at", "row"]) (ps := ["many", "ties"]) (k := 6) (b := gK) sc_kept_ties (fun _ _ _ _ _ _ us hl => match us, hl with | [_, _], _ => rfl) fun f cdv A outer s H E hr =>
  (iJ (BJ (dZ (dG (aK (fun _ => wD T) hr.le (aA (aC 1) aF))))
   (rQ (tU (fun i => zA i) (fun _ => lZ T) (fun _ => rfl) (fun _ => rfl) (fun _ => T.m_NoTie) T.xc_NoTie.c.be hr.le (aA aD aF)))
   (pX bF))
   (iJ (OB (bJ 2 (fun _ => sc_kept_ties.nd) NQ))
   (iJ (RJ (fun i => zA i) (fun _ => rfl) (EH (fun _ => rfl) (fun _ => T.hB.of "enumerate") (aA (aC 1) aF)) (tH (fun _ => rfl) (fun _ => rfl) (eO (cP 3 (fun _ => sc_kept_ties.nd)) (eO (cP 4 (fun _ => sc_kept_ties.nd)) oB)))
    (iJ (BJ (uR (iO (dZ (dG (aK (fun _ => HB T) hr.le (aA (aC 0) (aA (aC 4) aF))))) (iX (XA (fun _ => hr.u1) (BR (aA (aZ bU (aC 4) aD) (aA (aZ bU (aC 4) aD) aF))) (aC 2)))))
    (rQ (tU (fun i => zA i) (fun _ => lZ T) (fun _ => rfl) (fun _ => rfl) (fun _ => T.m_NoTie) T.xc_NoTie.c.be hr.le (aA (aC 3) aF)))
    (pX bF))
   (pX (aO (TK (fun _ => hr.u1) (aC 2) (BR (aA (aZ bU (aC 4) aD) (aA (aZ bU (aC 4) aD) aF))) (jP (oS (fun _ => rfl)) (fun _ => T.hB.of "tuple") boot_tuple (aA (aZ bU (aC 4) aD) aF)))))))
   (pX (aO (aQ (jP (oS (fun _ => rfl)) (fun _ => T.hB.of "tuple") boot_tuple (aA (KI (N' := (["i", "j", "weight"] : List Str)) (cap := [none, none, none]) (fun _ => rfl) (fun _ => pC (sc0 := aG gW) (N := ["many", "ties", "weights", "at", "row"]) rfl rfl (by decide +kernel)) (qJ (fun _ => rfl) (OK (fun _ => rfl) (fun _ => hr.units2) (fun _ => rfl) (fun _ => T.hB.of "sorted") (aC 2))) (tH (fun _ => rfl) (fun _ => rfl) (eO (tH (fun _ => rfl) (fun _ => rfl) (eO (cP 0 (fun _ => (show (["i", "j", "weight"] : List Str).Nodup by decide +kernel))) (eO (cP 1 (fun _ => (show (["i", "j", "weight"] : List Str).Nodup by decide +kernel))) oB))) (eO (cP 2 (fun _ => (show (["i", "j", "weight"] : List Str).Nodup by decide +kernel))) oB))) (aBf (bK aAo (aZ bU (aC 2) aD) aD)) (bD (aA (aC 0) (aA (aC 1) (aA (aC 2) aF))))) aF))))))))
theorem wZ (T : Txt K mg) : uJ P w K mg base 8 "Web" ["self", "many", "ties"] (spX K bE) :=
 T.mm_Web__init.okR (N := ["self", "many", "ties"]) (ps := ["self", "many", "ties"]) (k := 7) (b := eK) T.mk_Web T.kp_Web T.m_Web xX (fun _ _ _ _ _ _ us hl => match us, hl with | [_, _, _], _ => rfl) fun f cdv A outer s H E hr =>
  (iJ (BJ (uR (iO (dZ (dG (aK (fun _ => iV T) hr.le (aA (aC 1) aF)))) (iO (bK uX (aC 1) aD) (iX (bK aAo (aC 1) (sF (fun _ => T.c_MOST_PLACES)))))))
   (rQ (BV (fun i => zA i) (fun _ => rfl) (fun _ => rfl) (fun _ => T.m_NoPlace) T.q_NoPlace))
   (pX bF))
   (iJ (OB (LJ (nm := "Web") (fun _ => rfl) T.cl_Web T.na_Web_many (aC 0) (aC 1)))
   (iJ (TX (nm := "Web") (fun _ => rfl) T.cl_Web T.na_Web_ties (aC 0) (TY (fun i => zA i) (fun _ => yI T) hr.le (JS (aA (aC 1) (aA (aC 2) aF)))))
   (pX (aO (LJ (nm := "Web") (fun _ => rfl) T.cl_Web T.na_Web_weights (aC 0) (aAw (N' := (["i", "j", "weight"] : List Str)) (cap := [none, none, none]) (fun _ => hr.u0) (fun _ => rfl) (fun _ => pC (sc0 := aG eR) (N := ["self", "many", "ties"]) rfl rfl (by decide +kernel)) (qJ (fun _ => rfl) (ZP (nm := "Web") (fun _ => rfl) T.cl_Web T.na_Web_ties (aC 0))) (tH (fun _ => rfl) (fun _ => rfl) (eO (cP 0 (fun _ => (show (["i", "j", "weight"] : List Str).Nodup by decide +kernel))) (eO (cP 1 (fun _ => (show (["i", "j", "weight"] : List Str).Nodup by decide +kernel))) (eO (cP 2 (fun _ => (show (["i", "j", "weight"] : List Str).Nodup by decide +kernel))) oB)))) xW (BR (aA (aC 0) (aA (aC 1) aF))) (aC 2))))))))
theorem ok__law_alone (T : Txt K mg) : Callee P w K mg base 1 "_law_alone" ["_law_error"] (spM K eT) :=
 T.d__law_alone.okG (N := ["_law_error"]) (ps := ["_law_error"]) (k := 0) (b := gY) nG (fun _ _ _ _ _ _ us hl => match us, hl with | [_], _ => rfl) fun f cdv A outer s H E hr =>
  (aL (bZ (uR (iO (dZ (dG (fF (tab := TB_CutError) (nn := some false) (c := (.ref (aP K "CutError"))) (fun _ => rfl) (.own _) (jH (fun _ => T.m_CutError)) (fA (fE T) T.kg_CutError rfl) (fD T.kn_CutError) (aC 0) (fun _ => aW) (fun _ => T.hB.of "isinstance")))) (iX (dZ (dG (fF (tab := TB_ValueError) (nn := some false) (c := (.type "ValueError")) (fun _ => rfl) (.ty _) (UW (fun _ => T.hB.of "ValueError") kQ) (fA (fE T) T.kg_ValueError rfl) (fD T.kn_ValueError) (aC 0) (fun _ => aW) (fun _ => T.hB.of "isinstance")))))))
   (aO (aQ eZ))
   bF)
   (aO (aQ (cO (iH (fF (tab := TB_NoLine) (nn := some false) (c := (.ref (aP K "NoLine"))) (fun _ => rfl) (.own _) (jH (fun _ => T.m_NoLine)) (fA (fE T) T.kg_NoLine rfl) (fD T.kn_NoLine) (aC 0) (fun _ => aW) (fun _ => T.hB.of "isinstance"))) (cO (iH (fF (tab := TB_NoWeight) (nn := some false) (c := (.ref (aP K "NoWeight"))) (fun _ => rfl) (.own _) (jH (fun _ => T.m_NoWeight)) (fA (fE T) T.kg_NoWeight rfl) (fD T.kn_NoWeight) (aC 0) (fun _ => aW) (fun _ => T.hB.of "isinstance"))) (eI (iH (fF (tab := TB_TooMany) (nn := some false) (c := (.ref (aP K "TooMany"))) (fun _ => rfl) (.own _) (jH (fun _ => T.m_TooMany)) (fA (fE T) T.kg_TooMany rfl) (fD T.kn_TooMany) (aC 0) (fun _ => aW) (fun _ => T.hB.of "isinstance")))))))))
theorem lH (T : Txt K mg) : Callee P w K mg base 1 "_law_alone" ["_law_error"] (spM K eT) false :=
 T.d__law_alone.okG (q := false) (N := ["_law_error"]) (ps := ["_law_error"]) (k := 0) (b := gY) nG (fun _ _ _ _ _ _ us hl => match us, hl with | [_], _ => rfl) fun f cdv A outer s H E hr =>
  (aL (bZ (uR (iO (dZ (dG (fF (tab := TB_CutError) (nn := some false) (c := (.ref (aP K "CutError"))) (fun _ => rfl) (.own _) (jH (fun _ => T.m_CutError)) (fA (fE T) T.kg_CutError rfl) (fD T.kn_CutError) (aC 0) (fun _ => aW) (fun _ => T.hB.of "isinstance")))) (iX (dZ (dG (fF (tab := TB_ValueError) (nn := some false) (c := (.type "ValueError")) (fun _ => rfl) (.ty _) (UW (fun _ => T.hB.of "ValueError") kQ) (fA (fE T) T.kg_ValueError rfl) (fD T.kn_ValueError) (aC 0) (fun _ => aW) (fun _ => T.hB.of "isinstance")))))))
   (aO (aQ eZ))
   bF)
   (aO (aQ (cO (iH (fF (tab := TB_NoLine) (nn := some false) (c := (.ref (aP K "NoLine"))) (fun _ => rfl) (.own _) (jH (fun _ => T.m_NoLine)) (fA (fE T) T.kg_NoLine rfl) (fD T.kn_NoLine) (aC 0) (fun _ => aW) (fun _ => T.hB.of "isinstance"))) (cO (iH (fF (tab := TB_NoWeight) (nn := some false) (c := (.ref (aP K "NoWeight"))) (fun _ => rfl) (.own _) (jH (fun _ => T.m_NoWeight)) (fA (fE T) T.kg_NoWeight rfl) (fD T.kn_NoWeight) (aC 0) (fun _ => aW) (fun _ => T.hB.of "isinstance"))) (eI (iH (fF (tab := TB_TooMany) (nn := some false) (c := (.ref (aP K "TooMany"))) (fun _ => rfl) (.own _) (jH (fun _ => T.m_TooMany)) (fA (fE T) T.kg_TooMany rfl) (fD T.kn_TooMany) (aC 0) (fun _ => aW) (fun _ => T.hB.of "isinstance")))))))))
theorem gH (T : Txt K mg) : Callee P w K mg base 10 "_law_found" ["_law_many", "_law_ties_here"] (spM K bP) :=
 T.d__law_found.okG (N := ["_law_many", "_law_ties_here", "_law_found_here", "_law_error"]) (ps := ["_law_many", "_law_ties_here"]) (k := 9) (b := fM) sc__law_found (fun _ _ _ _ _ _ us hl => match us, hl with | [_, _], _ => rfl) fun f cdv A outer s H E hr =>
  (aL (bJ 2 (fun _ => sc__law_found.nd) nX)
   (aL (WH (fun _ => ⟨rfl, rfl, rfl⟩) (fun _ => rfl) (rQ (QC 2 (fun _ => sc__law_found.nd) (WJ (max_cons (aCl eM) (max_cons (aBi (nm := "Web") (fun _ => rfl) T.cl_Web T.na_Web_many (PU (fun i => aBE (fun _ => ⟨rfl, rfl, rfl⟩) i) (fun _ => wZ T) (fun _ => rfl) hr.le (aA (aC 0) (aA (aC 1) aF)))) (JS (aA eZ aF))))))) (EM (tab := [("NoTie", false), ("NoPlace", true)]) (n := (some 3)) (.ref (aP K "NoPlace")) (fun _ => ⟨rfl, rfl, rfl⟩) (fun _ => .inl T.m_NoPlace) (fun _ => ⟨sc__law_found.nd, rfl, rfl⟩) (mO T.ex_NoTie_NoPlace (mO T.ex_NoPlace_NoPlace yO)) (aO (bJ 2 (fun _ => sc__law_found.nd) (bD (aA eM (aA aD (aA (cO (aK (fun _ => lH T) (fun _ => hr.mark (by decide)) (aA (aC 3) aF)) (eI (iH (fF (tab := TB_NoTie) (nn := some false) (c := (.ref (aP K "NoTie"))) (fun _ => rfl) (.own _) (jH (fun _ => T.m_NoTie)) (fA (fE T) T.kg_NoTie rfl) (fD T.kn_NoTie) (aC 3) (fun _ => aW) (fun _ => T.hB.of "isinstance"))))) aF))))))
   (EM (tab := [("NoTie", true), ("NoPlace", false)]) (n := (some 3)) (.ref (aP K "NoTie")) (fun _ => ⟨rfl, rfl, rfl⟩) (fun _ => .inl T.m_NoTie) (fun _ => ⟨sc__law_found.nd, rfl, rfl⟩) (mO T.ex_NoTie_NoTie (mO T.ex_NoPlace_NoTie yO)) (aO (bJ 2 (fun _ => sc__law_found.nd) (bD (aA eM (aA (TB (nms := ["NoTie"]) (fun _ => rfl) (GL T.xc_NoTie.c T.xs_NoTie_at IB) (aC 3)) (aA (cO (aK (fun _ => lH T) (fun _ => hr.mark (by decide)) (aA (aC 3) aF)) (eI (iH (fF (tab := TB_NoPlace) (nn := some false) (c := (.ref (aP K "NoPlace"))) (fun _ => rfl) (.own _) (jH (fun _ => T.m_NoPlace)) (fA (fE T) T.kg_NoPlace rfl) (fD T.kn_NoPlace) (aC 3) (fun _ => aW) (fun _ => T.hB.of "isinstance"))))) aF))))))
   YJ)))
   (aO (aQ (aC 2)))))
theorem fU (T : Txt K mg) : Callee P w K mg base 1 "_law_is_whole" ["_law_thing", "_law_low", "_law_most"] (spM K cQ) :=
 T.d__law_is_whole.okG (N := ["_law_thing", "_law_low", "_law_most"]) (ps := ["_law_thing", "_law_low", "_law_most"]) (k := 0) (b := gT) pU (fun _ _ _ _ _ _ us hl => match us, hl with | [_, _, _], _ => rfl) fun f cdv A outer s H E hr =>
  (aO (aQ (cO (kH (T := "int") (fun _ => rfl) (by decide) (aC 0) (fun _ => aW) (fun _ => T.hB.of "isinstance") (fun _ => T.hB.of "int") boot_int) (cO (iH (kH (T := "bool") (fun _ => rfl) (by decide) (aC 0) (fun _ => aW) (fun _ => T.hB.of "isinstance") (fun _ => T.hB.of "bool") boot_bool)) (eI (zX NM NM (aC 1) (aC 0) (aC 2)))))))
theorem iA (T : Txt K mg) : Callee P w K mg base 1 "_law_is_row" ["_law_thing"] (spM K dX) :=
 T.d__law_is_row.okG (N := ["_law_thing"]) (ps := ["_law_thing"]) (k := 0) (b := mT) tL (fun _ _ _ _ _ _ us hl => match us, hl with | [_], _ => rfl) fun f cdv A outer s H E hr =>
  (aO (aQ (aCu (kH (T := "list") (fun _ => rfl) (by decide) (aC 0) (fun _ => aW) (fun _ => T.hB.of "isinstance") (fun _ => T.hB.of "list") boot_list) (eI (kH (T := "tuple") (fun _ => rfl) (by decide) (aC 0) (fun _ => aW) (fun _ => T.hB.of "isinstance") (fun _ => T.hB.of "tuple") boot_tuple)))))
theorem mY (T : Txt K mg) : Callee P w K mg base 1 "_law_least" ["_law_above", "_law_below"] (spM K fS) :=
 T.d__law_least.okG (N := ["_law_above", "_law_below", "_law_one", "_law_other"]) (ps := ["_law_above", "_law_below"]) (k := 0) (b := kJ) sc__law_least (fun _ _ _ _ _ _ us hl => match us, hl with | [_, _], _ => rfl) fun f cdv A outer s H E hr =>
  (aL (bJ 2 (fun _ => sc__law_least.nd) (aC 0))
   (aL (bJ 3 (fun _ => sc__law_least.nd) (aC 1))
   (aL (AA (fun _ => PassesOwn.never) (bK aAo (aC 3) aD) (aO (JF 2 3 (fun _ => rfl) (fun _ => sc__law_least.nd) (aA (aC 3) (aA (bA nL (aC 2) (aC 3)) aF)))))
   (aO (aQ (bD (aA (bA DE (aC 0) (aC 2)) (aA (bA DE (aC 1) (aC 2)) aF))))))))
theorem pE (T : Txt K mg) : Callee P w K mg base 2 "_law_is_amount" ["_law_thing"] (spM K bG) :=
 T.d__law_is_amount.okG (N := ["_law_thing"]) (ps := ["_law_thing"]) (k := 1) (b := bR) oQ (fun _ _ _ _ _ _ us hl => match us, hl with | [_], _ => rfl) fun f cdv A outer s H E hr =>
  (aL (bZ (uR (iO (dZ (dG (aK (fun _ => iA T) hr.le (aA (aC 0) aF)))) (iX (bK (xF (fun _ => rfl) (fun _ => hr.units)) (fT qR (fun _ => T.hB.of "len") boot_len (aA (aC 0) aF)) aD))))
   (aO (aQ eZ))
   bF)
   (aL (bZ (uR (iO (dZ (dG (fT (aBt (fun _ => rfl) (fun _ => rfl)) (fun _ => T.hB.of "all") boot_all (aA (KI (N' := (["_law_one"] : List Str)) (cap := [none]) (fun _ => rfl) (fun _ => pC (sc0 := aG eC) (N := ["_law_thing"]) rfl rfl (by decide +kernel)) (qJ (fun _ => rfl) (aC 0)) (cP 0 (fun _ => (show (["_law_one"] : List Str).Nodup by decide +kernel))) xW (cO (kH (T := "int") (fun _ => rfl) (by decide) (aC 0) (fun _ => aW) (fun _ => T.hB.of "isinstance") (fun _ => T.hB.of "int") boot_int) (eI (iH (kH (T := "bool") (fun _ => rfl) (by decide) (aC 0) (fun _ => aW) (fun _ => T.hB.of "isinstance") (fun _ => T.hB.of "bool") boot_bool))))) aF)))) (iO (bK uX (aZ bU (aC 0) aD) aD) (iX (bK uX (aZ bU (aC 0) aD) aD)))))
    (aO (aQ eZ))
    bF)
   (aO (aQ (gR (jM (fun _ => rfl) (fun _ => hr.units)) (aK (fun _ => mY T) hr.le (aA (aZ bU (aC 0) aD) (aA (aZ bU (aC 0) aD) aF))) (bD (aA (aZ bU (aC 0) aD) (aA (aZ bU (aC 0) aD) aF))))))))
theorem pA (T : Txt K mg) : Callee P w K mg base 3 "_law_is_weight" ["_law_thing"] (spM K bS) :=
 T.d__law_is_weight.okG (N := ["_law_thing"]) (ps := ["_law_thing"]) (k := 2) (b := cM) oI (fun _ _ _ _ _ _ us hl => match us, hl with | [_], _ => rfl) fun f cdv A outer s H E hr =>
  (aO (aQ (cO (aK (fun _ => pE T) hr.le (aA (aC 0) aF)) (cO (gR NM (aZ bU (aC 0) aD) (bA mV aD aD)) (eI (gR (jM (fun _ => rfl) (fun _ => hr.units)) (bA nL aD (aZ bU (aC 0) aD)) aD))))))
theorem oE (T : Txt K mg) : Callee P w K mg base 4 "_law_first_bad" ["_law_many", "_law_ties_here"] (spM K dA) :=
 T.d__law_first_bad.okG (N := ["_law_many", "_law_ties_here", "_law_known", "_law_at", "_law_one"]) (ps := ["_law_many", "_law_ties_here"]) (k := 3) (b := eS) sc__law_first_bad (fun _ _ _ _ _ _ us hl => match us, hl with | [_, _], _ => rfl) fun f cdv A outer s H E hr =>
  (aL (bJ 2 (fun _ => sc__law_first_bad.nd) (CQ aF))
   (aL (qI (fun _ => PassesOwn.never) (fun _ => rfl) (EH (fun _ => rfl) (fun _ => T.hB.of "enumerate") (aA (aC 1) aF)) (tH (fun _ => rfl) (fun _ => rfl) (eO (cP 3 (fun _ => sc__law_first_bad.nd)) (eO (cP 4 (fun _ => sc__law_first_bad.nd)) oB)))
    (aL (bZ (uR (iO (dZ (dG (aK (fun _ => iA T) hr.le (aA (aC 4) aF)))) (iO (bK (xF (fun _ => rfl) (fun _ => hr.units)) (fT qR (fun _ => T.hB.of "len") boot_len (aA (aC 4) aF)) aD) (iX (dZ (dG (aK (fun _ => pA T) hr.le (aA (aZ bU (aC 4) aD) aF))))))))
    (aO (aQ (aC 3)))
    bF)
   (aL (bZ (uR (iO (dZ (dG (aK (fun _ => fU T) hr.le (aA (aZ bU (aC 4) aD) (aA aD (aA (bA wJ (aC 0) aD) aF)))))) (iX (dZ (dG (aK (fun _ => fU T) hr.le (aA (aZ bU (aC 4) aD) (aA (bA eE (aZ bU (aC 4) aD) aD) (aA (bA wJ (aC 0) aD) aF)))))))))
    (aO (aQ (aC 3)))
    bF)
   (aL (bZ (bK (aBs (fun _ => rfl) (fun _ => hr.units1)) (bD (aA (aZ bU (aC 4) aD) (aA (aZ bU (aC 4) aD) aF))) (aC 2))
    (aO (aQ (aC 3)))
    bF)
   (aO (RN (GK (fun _ => rfl) (aC 2) (aA (bD (aA (aZ bU (aC 4) aD) (aA (aZ bU (aC 4) aD) aF))) aF))))))))
   (aO (aQ nX))))
theorem hV (T : Txt K mg) : Callee P w K mg base 5 "_law_told" ["_law_many", "_law_ties_here"] (spM K cH) :=
 T.d__law_told.okG (N := ["_law_many", "_law_ties_here", "_law_at"]) (ps := ["_law_many", "_law_ties_here"]) (k := 4) (b := fJ) sc__law_told (fun _ _ _ _ _ _ us hl => match us, hl with | [_, _], _ => rfl) fun f cdv A outer s H E hr =>
  (aL (bZ (dZ (dG (aK (fun _ => fU T) hr.le (aA (aC 0) (aA aD (aA aD aF))))))
   (aO (aQ (bD (aA eM (aA aD (aA eZ aF))))))
   bF)
   (aL (bZ (dZ (dG (aK (fun _ => iA T) hr.le (aA (aC 1) aF))))
    (aO (aQ (bD (aA eM (aA aD (aA eZ aF))))))
    bF)
   (aL (bJ 2 (fun _ => sc__law_told.nd) (aK (fun _ => oE T) hr.le (aA (aC 0) (aA (aC 1) aF))))
   (aL (bZ (bK aAF (aC 2) nX)
    (aO (aQ (bD (aA eM (aA (aC 2) (aA eZ aF))))))
    bF)
   (aO (aQ (bD (aA eM (aA (aC 0) (aA eZ aF))))))))))
theorem sS (T : Txt K mg) : Callee P w K mg base 1 "_law_stream" ["_law_script", "_law_k"] (spM K dU) :=
 T.d__law_stream.okG (N := ["_law_script", "_law_k", "_law_cell", "_law_mixed"]) (ps := ["_law_script", "_law_k"]) (k := 0) (b := eW) sc__law_stream (fun _ _ _ _ _ _ us hl => match us, hl with | [_, _], _ => rfl) fun f cdv A outer s H E hr =>
  (aL (bZ (bK uX (aC 1) (fT qR (fun _ => T.hB.of "len") boot_len (aA (aC 0) aF)))
   (aL (bJ 2 (fun _ => sc__law_stream.nd) (aZ bU (aC 0) (aC 1)))
   (aL (bJ 3 (fun _ => sc__law_stream.nd) (bA eE (bA eE (bA nL (aC 2) aD) (bA AN (aC 1) (aC 1))) aD))
   (aL (bZ (bK uX (aC 2) (bA mV aD aD))
    (aO (bJ 2 (fun _ => sc__law_stream.nd) aD))
    bF)
   (aO (aQ (CQ (aA (aC 2) (aA (aC 3) aF))))))))
    bF)
   (aO (aQ (CQ (aA aD (aA (bA eE (bA AN (aC 1) (aC 1)) aD) aF))))))
theorem aX (T : Txt K mg) : Callee P w K mg base 1 "_law_take" ["_law_stream_here", "_law_most"] (spM K aR) :=
 T.d__law_take.okG (N := ["_law_stream_here", "_law_most", "_law_digit"]) (ps := ["_law_stream_here", "_law_most"]) (k := 0) (b := iS) sc__law_take (fun _ _ _ _ _ _ us hl => match us, hl with | [_, _], _ => rfl) fun f cdv A outer s H E hr =>
  (aL (bZ (bK (jM (fun _ => rfl) (fun _ => hr.units)) (aZ bU (aC 0) aD) aD)
   (aL (KN (bA nL (bA eE (bA AN (aZ bU (aC 0) aD) aD) aD) aD) (IE UP (aC 0) aD))
   (aO (aQ (bA nL (bA nL (bA AN (aZ bU (aC 0) aD) (aZ bU (aC 0) aD)) aD) (aC 1)))))
    bF)
   (aL (bJ 2 (fun _ => sc__law_take.nd) (bA nL (aZ bU (aC 0) aD) (aC 1)))
   (aL (KN (bA DE (aZ bU (aC 0) aD) (aC 1)) (IE UP (aC 0) aD))
   (aO (aQ (aC 2))))))
theorem kL (T : Txt K mg) : Callee P w K mg base 2 "_law_pick" ["_law_stream_here", "_law_some"] (spM K dF) :=
 T.d__law_pick.okG (N := ["_law_stream_here", "_law_some"]) (ps := ["_law_stream_here", "_law_some"]) (k := 1) (b := lJ) xQ (fun _ _ _ _ _ _ us hl => match us, hl with | [_, _], _ => rfl) fun f cdv A outer s H E hr =>
  (aO (aQ (aZ bU (aC 1) (aK (fun _ => aX T) hr.le (aA (aC 0) (aA (fT qR (fun _ => T.hB.of "len") boot_len (aA (aC 1) aF)) aF))))))
theorem mD (T : Txt K mg) : Callee P w K mg base 3 "_law_weight" ["_law_stream_here"] (spM K bX) :=
 T.d__law_weight.okG (N := ["_law_stream_here", "_law_kind", "_law_below", "_law_above"]) (ps := ["_law_stream_here"]) (k := 2) (b := eY) sc__law_weight (fun _ _ _ _ _ _ us hl => match us, hl with | [_], _ => rfl) fun f cdv A outer s H E hr =>
  (aL (bJ 1 (fun _ => sc__law_weight.nd) (aK (fun _ => aX T) hr.le (aA (aC 0) (aA aD aF))))
   (aL (bZ (bK uX (aC 1) aD)
    (aO (aQ (aZ bU (dH (aA (bD (aA aD (aA aD aF))) (aA (bD (aA aD (aA aD aF))) (aA (bD (aA aD (aA aD aF))) (aA (bD (aA aD (aA aD aF))) (aA (bD (aA aD (aA aD aF))) (aA (bD (aA aD (aA aD aF))) aF))))))) (aC 1))))
    bF)
   (aL (bJ 2 (fun _ => sc__law_weight.nd) (aK (fun _ => kL T) hr.le (aA (aC 0) (aA (dH (aA aD (aA aD (aA aD (aA aD (aA aD (aA aD (aA aD (aA aD (aA aD (aA aD (aA aD (aA aD (aA aD (aA aD (aA aD (aA aD aF))))))))))))))))) aF))))
   (aL (bJ 3 (fun _ => sc__law_weight.nd) (aK (fun _ => aX T) hr.le (aA (aC 0) (aA aD aF))))
   (aL (bZ (bK (jM (fun _ => rfl) (fun _ => hr.units)) (aC 1) aD)
    (aO (bJ 3 (fun _ => sc__law_weight.nd) (aZ bU (dH (aA (bA mV aD aD) (aA (bA wJ (bA mV aD aD) aD) (aA aD (aA (bA eE (bA mV aD aD) (aK (fun _ => aX T) hr.le (aA (aC 0) (aA aD aF)))) aF))))) (aK (fun _ => aX T) hr.le (aA (aC 0) (aA aD aF))))))
    bF)
   (aO (aQ (aK (fun _ => mY T) hr.le (aA (aC 3) (aA (aC 2) aF))))))))))
theorem xH (T : Txt K mg) : Callee P w K mg base 4 "_law_ties" ["_law_stream_here", "_law_many"] (spM K iN) :=
 T.d__law_ties.okG (N := ["_law_stream_here", "_law_many", "_law_share", "_law_found_here", "_law_j", "_law_i", "_law_at"]) (ps := ["_law_stream_here", "_law_many"]) (k := 3) (b := mG) sc__law_ties (fun _ _ _ _ _ _ us hl => match us, hl with | [_, _], _ => rfl) fun f cdv A outer s H E hr =>
  (aL (bJ 2 (fun _ => sc__law_ties.nd) (aK (fun _ => aX T) hr.le (aA (aC 0) (aA aD aF))))
   (aL (bJ 3 (fun _ => sc__law_ties.nd) (dH aF))
   (aL (qI (fun _ => PassesOwn.never) (fun _ => rfl) (rS (fun _ => T.hB.of "range") (aA (aC 1) aF)) (cP 4 (fun _ => sc__law_ties.nd))
    (aO (qI (fun _ => PassesOwn.never) (fun _ => rfl) (rS (fun _ => T.hB.of "range") (aA (aC 4) aF)) (cP 5 (fun _ => sc__law_ties.nd))
    (aO (bZ (bK uX (aK (fun _ => aX T) hr.le (aA (aC 0) (aA aD aF))) (aC 2))
    (aL (bJ 6 (fun _ => sc__law_ties.nd) (aK (fun _ => aX T) hr.le (aA (aC 0) (aA (bA eE (fT qR (fun _ => T.hB.of "len") boot_len (aA (aC 3) aF)) aD) aF))))
   (aO (bJ 3 (fun _ => sc__law_ties.nd) (bA eE (bA eE (mU (fun _ => rfl) (aC 3) gE (gG (aC 6))) (dH (aA (bD (aA (aC 5) (aA (aC 4) (aA (aK (fun _ => mD T) hr.le (aA (aC 0) aF)) aF)))) aF))) (mU (fun _ => rfl) (aC 3) (gG (aC 6)) gE)))))
    bF)))))
   (aO (aQ (aC 3))))))
theorem xB (T : Txt K mg) : Callee P w K mg base 2 "_law_bent" ["_law_stream_here", "_law_row"] (spM K eJ) :=
 T.d__law_bent.okG (N := ["_law_stream_here", "_law_row", "_law_place", "_law_kind", "_law_some"]) (ps := ["_law_stream_here", "_law_row"]) (k := 1) (b := gM) sc__law_bent (fun _ _ _ _ _ _ us hl => match us, hl with | [_, _], _ => rfl) fun f cdv A outer s H E hr =>
  (aL (bJ 2 (fun _ => sc__law_bent.nd) (aK (fun _ => aX T) hr.le (aA (aC 0) (aA (fT qR (fun _ => T.hB.of "len") boot_len (aA (aC 1) aF)) aF))))
   (aL (bJ 3 (fun _ => sc__law_bent.nd) (aK (fun _ => aX T) hr.le (aA (aC 0) (aA aD aF))))
   (aL (bZ (bK (jM (fun _ => rfl) (fun _ => hr.units)) (aC 3) aD)
    (aO (aQ (bA eE (mU (fun _ => rfl) (aC 1) gE (gG (aC 2))) (mU (fun _ => rfl) (aC 1) (gG (bA eE (aC 2) aD)) gE))))
    bF)
   (aL (bZ (bK (jM (fun _ => rfl) (fun _ => hr.units)) (aC 3) aD)
    (aO (aQ (bA eE (bA eE (mU (fun _ => rfl) (aC 1) gE (gG (aC 2))) (bD (aA (aZ bU (aC 1) (aC 2)) aF))) (mU (fun _ => rfl) (aC 1) (gG (aC 2)) gE))))
    bF)
   (aL (bJ 4 (fun _ => sc__law_bent.nd) (dH (aA nX (aA eZ (aA eZ (aA (AW AK aD) (aA aD (aA aD (aA aD (aA (bA eE (bA mV aD aD) aD) (aA eM (aA eM (aA (bD aF) (aA (bD (aA aD (aA aD aF))) (aA (bD (aA aD (aA aD aF))) (aA (bD (aA aD (aA aD aF))) (aA (bD (aA aD (aA aD aF))) (aA zV aF))))))))))))))))))
   (aO (aQ (bA eE (bA eE (mU (fun _ => rfl) (aC 1) gE (gG (aC 2))) (bD (aA (aZ bU (aC 4) (aK (fun _ => aX T) hr.le (aA (aC 0) (aA aD aF)))) aF))) (mU (fun _ => rfl) (aC 1) (gG (bA eE (aC 2) aD)) gE)))))))))
theorem iM (T : Txt K mg) : ∀ n : Nat, Callee P w K mg base (n + 2) "_law_any" ["_law_stream_here", "_law_script", "_law_depth"] (spM K (cB n))
 | 0 => (T.d__law_any.okNone (N := ["_law_stream_here", "_law_script", "_law_depth", "_law_kind", "_law_some"]) (ps := ["_law_stream_here", "_law_script", "_law_depth"]) (k := 1) sc__law_any (fun _ _ _ _ _ _ us hl => match us, hl with | [_, _, _], _ => rfl)).mono (by decide)
 | n + 1 => (T.d__law_any.okG (N := ["_law_stream_here", "_law_script", "_law_depth", "_law_kind", "_law_some"]) (ps := ["_law_stream_here", "_law_script", "_law_depth"]) (k := n + 2) (b := cD (cB n)) sc__law_any (fun _ _ _ _ _ _ us hl => match us, hl with | [_, _, _], _ => rfl) fun f cdv A outer s H E hr =>
  (aL (bJ 3 (fun _ => sc__law_any.nd) (aK (fun _ => aX T) (fun _ => hr.mono (by omega)) (aA (aC 0) (aA (bA wJ aD (bA AN aD (jP aBT (fun _ => T.hB.of "int") boot_int (aA (gR (jM (fun _ => rfl) (fun _ => hr.units)) (aC 2) aD) aF)))) aF))))
   (aL (bZ (bK (jM (fun _ => rfl) (fun _ => hr.units)) (aC 3) aD)
    (aO (aQ (aBF (bK (xF (fun _ => rfl) (fun _ => hr.units)) (aC 1) (dH aF)) (bA wJ (bA nL (aZ bU (aC 1) aD) (bA mV aD aD)) (bA mV aD aD)) (AW AK aD))))
    bF)
   (aL (bZ (bK (jM (fun _ => rfl) (fun _ => hr.units)) (aC 3) aD)
    (aO (aQ (aZ bU (dH (aA aD (aA aD (aA aD (aA aD (aA (AW AK aD) (aA aD (aA aD aF)))))))) (aK (fun _ => aX T) (fun _ => hr.mono (by omega)) (aA (aC 0) (aA aD aF))))))
    bF)
   (aL (bZ (bK (jM (fun _ => rfl) (fun _ => hr.units)) (aC 3) aD)
    (aO (aQ (aZ bU (dH (aA eZ (aA eZ (aA nX aF)))) (aK (fun _ => aX T) (fun _ => hr.mono (by omega)) (aA (aC 0) (aA aD aF))))))
    bF)
   (aL (bZ (bK uX (aC 3) aD)
    (aO (aQ (aZ bU (dH (aA eM (aA eM (aA eM (aA eM (aA eM (aA eM aF))))))) (aK (fun _ => aX T) (fun _ => hr.mono (by omega)) (aA (aC 0) (aA aD aF))))))
    bF)
   (aL (IG 4 (fun _ => sc__law_any.nd) (N' := (["_law_stream_here", "_law_script", "_law_depth", "_law_k"] : List Str)) (cap := [some 0, some 1, some 2, none]) (fun _ => rfl) (fun _ => pC (sc0 := aG iT) (N := ["_law_stream_here", "_law_script", "_law_depth", "_law_kind", "_law_some"]) rfl rfl (by decide +kernel)) (rS (fun _ => T.hB.of "range") (aA (aK (fun _ => aX T) (fun _ => hr.mono (by omega)) (aA (aC 0) (aA aD aF))) aF)) (cP 3 (fun _ => (show (["_law_stream_here", "_law_script", "_law_depth", "_law_k"] : List Str).Nodup by decide +kernel))) xW (aK (fun _ => iM T n) (fun _ => hr.mono (by omega)) (aA (aC 0) (aA (aC 1) (aA (bA wJ (aC 2) aD) aF)))))
   (aL (bZ (bK (jM (fun _ => rfl) (fun _ => hr.units)) (aC 3) aD)
    (aO (aQ (jP (oS (fun _ => rfl)) (fun _ => T.hB.of "tuple") boot_tuple (aA (aC 4) aF))))
    bF)
   (aL (bZ (bK (jM (fun _ => rfl) (fun _ => hr.units)) (aC 3) aD)
    (aO (aQ (aC 4)))
    bF)
   (aO (aQ (QT (EW aD (aC 4) (EW eM nX aAB)))))))))))))).mono (by omega)
theorem kO (T : Txt K mg) : Callee P w K mg base 7 "_law_bad_tie" ["_law_stream_here", "_law_script", "_law_many", "_law_ties_here"] (spM K dD) :=
 T.d__law_bad_tie.okG (N := ["_law_stream_here", "_law_script", "_law_many", "_law_ties_here", "_law_one", "_law_kind", "_law_weights"]) (ps := ["_law_stream_here", "_law_script", "_law_many", "_law_ties_here"]) (k := 6) (b := iG) sc__law_bad_tie (fun _ _ _ _ _ _ us hl => match us, hl with | [_, _, _, _], _ => rfl) fun f cdv A outer s H E hr =>
  (aL (bJ 4 (fun _ => sc__law_bad_tie.nd) (bD (aA aD (aA aD (aA (bD (aA aD (aA aD aF))) aF)))))
   (aL (bZ (bK (xF (fun _ => rfl) (fun _ => hr.units)) (aC 3) (dH aF))
    (aO (bJ 4 (fun _ => sc__law_bad_tie.nd) (aK (fun _ => kL T) hr.le (aA (aC 0) (aA (aC 3) aF)))))
    bF)
   (aL (bJ 5 (fun _ => sc__law_bad_tie.nd) (aK (fun _ => aX T) hr.le (aA (aC 0) (aA aD aF))))
   (aL (bZ (bK (jM (fun _ => rfl) (fun _ => hr.units)) (aC 5) aD)
    (aO (aQ (aK (fun _ => xB T) hr.le (aA (aC 0) (aA (aC 4) aF)))))
    bF)
   (aL (bZ (bK (jM (fun _ => rfl) (fun _ => hr.units)) (aC 5) aD)
    (aO (aQ (bD (aA (aZ bU (aC 4) aD) (aA (aZ bU (aC 4) aD) (aA (aZ bU (aC 4) aD) aF))))))
    bF)
   (aL (bZ (bK (jM (fun _ => rfl) (fun _ => hr.units)) (aC 5) aD)
    (aO (aQ (bD (aA (aZ bU (aC 4) aD) (aA (aZ bU (aC 4) aD) (aA (aK (fun _ => mD T) hr.le (aA (aC 0) aF)) aF))))))
    bF)
   (aL (bZ (bK (jM (fun _ => rfl) (fun _ => hr.units)) (aC 5) aD)
    (aO (aQ (bD (aA (aZ bU (aC 4) aD) (aA (aC 2) (aA (aZ bU (aC 4) aD) aF))))))
    bF)
   (aL (bZ (bK (jM (fun _ => rfl) (fun _ => hr.units)) (aC 5) aD)
    (aL (bJ 6 (fun _ => sc__law_bad_tie.nd) (dH (aA (bD (aA aD (aA aD aF))) (aA (bD (aA aD (aA aD aF))) (aA (bD (aA aD (aA aD aF))) (aA (bD (aA (bA eE (bA mV aD aD) aD) (aA aD aF))) (aA (bD (aA (AW AK aD) (aA aD aF))) (aA (bD (aA eZ (aA aD aF))) (aA aD aF)))))))))
   (aO (aQ (bD (aA (aZ bU (aC 4) aD) (aA (aZ bU (aC 4) aD) (aA (aK (fun _ => kL T) hr.le (aA (aC 0) (aA (aC 6) aF))) aF)))))))
    bF)
   (aO (aQ (aK (fun _ => iM T 4) hr.le (aA (aC 0) (aA (aC 1) (aA aD aF))))))))))))))
theorem nH (T : Txt K mg) : ∀ n : Nat, Callee P w K mg base (n + 1) "_law_lists" ["_law_thing"] (spM K (bY n))
 | 0 => (T.d__law_lists.okNone (N := ["_law_thing"]) (ps := ["_law_thing"]) (k := 0) nM (fun _ _ _ _ _ _ us hl => match us, hl with | [_], _ => rfl)).mono (by decide)
 | n + 1 => (T.d__law_lists.okG (N := ["_law_thing"]) (ps := ["_law_thing"]) (k := n + 1) (b := jZ (bY n)) nM (fun _ _ _ _ _ _ us hl => match us, hl with | [_], _ => rfl) fun f cdv A outer s H E hr =>
  (aL (bZ (dG (kH (T := "tuple") (fun _ => rfl) (by decide) (aC 0) (fun _ => aW) (fun _ => T.hB.of "isinstance") (fun _ => T.hB.of "tuple") boot_tuple))
   (aO (aQ (KI (N' := (["_law_one"] : List Str)) (cap := [none]) (fun _ => rfl) (fun _ => pC (sc0 := aG gF) (N := ["_law_thing"]) rfl rfl (by decide +kernel)) (qJ (fun _ => rfl) (aC 0)) (cP 0 (fun _ => (show (["_law_one"] : List Str).Nodup by decide +kernel))) xW (aK (fun _ => nH T n) (fun _ => hr.mono (by omega)) (aA (aC 0) aF)))))
   bF)
   (aO (aQ (aC 0))))).mono (by omega)
theorem fn_law (T : Txt K mg) : ∃ f fd, mg "law" = some (.ref f) /\ (∀ (s : Shared) (u : Value), BindsTo s fd ⟨[u], []⟩ [("_law_script", u)]) /\ ∀ base, FnOk P w K mg base CX0 11 f fd ["_law_script"] (spM K F_law) :=
 T.d_law.okLG (N := ["_law_script", "_law_many", "_law_k", "_law_stream_here", "_law_ties_here", "_law_at", "_law_one", "_law_two", "_law_thing"]) (k := 10) (b := JU) sc_law rfl (fun _ _ _ _ _ _ us hl => match us, hl with | [_], _ => rfl) fun base f cdv A outer s H E hr =>
  (aL (qI (fun _ => PassesOwn.never) (fun _ => rfl) (qJ (fun _ => rfl) (dH (aA aD (aA aD (aA aD (aA aD (aA (AW AK aD) (aA eZ (aA eZ (aA nX (aA eM (aA (bD (aA aD aF)) (aA (dH aF) (aA (bA mV aD aD) (aA zV aF))))))))))))))) (cP 1 (fun _ => sc_law.nd))
   (aO (bZ (uR (iO (bK (xF (fun _ => rfl) (fun _ => hr.units)) (aK (fun _ => gH T) hr.le (aA (aC 1) (aA (bD aF) aF))) (aK (fun _ => hV T) hr.le (aA (aC 1) (aA (bD aF) aF)))) (iX (bK (xF (fun _ => rfl) (fun _ => hr.units)) (aK (fun _ => gH T) hr.le (aA (aC 1) (aA (dH (aA aD aF)) aF))) (aK (fun _ => hV T) hr.le (aA (aC 1) (aA (dH (aA aD aF)) aF)))))))
   (aO (aQ eZ))
   bF)))
   (aL (qI (fun _ => PassesOwn.never) (fun _ => rfl) (rS (fun _ => T.hB.of "range") (aA aD aF)) (cP 2 (fun _ => sc_law.nd))
    (aL (bJ 3 (fun _ => sc_law.nd) (aK (fun _ => sS T) hr.le (aA (aC 0) (aA (aC 2) aF))))
   (aL (bJ 1 (fun _ => sc_law.nd) (bA eE aD (aK (fun _ => aX T) hr.le (aA (aC 3) (aA aD aF)))))
   (aL (bJ 4 (fun _ => sc_law.nd) (aK (fun _ => xH T) hr.le (aA (aC 3) (aA (aC 1) aF))))
   (aL (bJ 5 (fun _ => sc_law.nd) (aK (fun _ => aX T) hr.le (aA (aC 3) (aA (bA eE (fT qR (fun _ => T.hB.of "len") boot_len (aA (aC 4) aF)) aD) aF))))
   (aL (bJ 6 (fun _ => sc_law.nd) (bA eE (bA eE (mU (fun _ => rfl) (aC 4) gE (gG (aC 5))) (dH (aA (aK (fun _ => kO T) hr.le (aA (aC 3) (aA (aC 0) (aA (aC 1) (aA (aC 4) aF))))) aF))) (mU (fun _ => rfl) (aC 4) (gG (aC 5)) gE)))
   (aL (bJ 7 (fun _ => sc_law.nd) (bA eE (aC 6) (dH (aA (aK (fun _ => kO T) hr.le (aA (aC 3) (aA (aC 0) (aA (aC 1) (aA (aC 4) aF))))) aF))))
   (aL (qI (fun _ => PassesOwn.never) (fun _ => rfl) (qJ (fun _ => rfl) (dH (aA (aC 6) (aA (jP (oS (fun _ => rfl)) (fun _ => T.hB.of "tuple") boot_tuple (aA (aC 7) aF)) (aA (aK (fun _ => nH T 6) hr.le (aA (jP (oS (fun _ => rfl)) (fun _ => T.hB.of "tuple") boot_tuple (aA (aC 7) aF)) aF)) (aA (aK (fun _ => iM T 4) hr.le (aA (aC 3) (aA (aC 0) (aA aD aF)))) aF)))))) (cP 8 (fun _ => sc_law.nd))
    (aO (bZ (bK (xF (fun _ => rfl) (fun _ => hr.units)) (aK (fun _ => gH T) hr.le (aA (aC 1) (aA (aC 8) aF))) (aK (fun _ => hV T) hr.le (aA (aC 1) (aA (aC 8) aF))))
    (aO (aQ eZ))
    bF)))
   (aL (bJ 8 (fun _ => sc_law.nd) (aK (fun _ => iM T 4) hr.le (aA (aC 3) (aA (aC 0) (aA aD aF)))))
   (aO (bZ (bK (xF (fun _ => rfl) (fun _ => hr.units)) (aK (fun _ => gH T) hr.le (aA (aC 8) (aA (aC 4) aF))) (aK (fun _ => hV T) hr.le (aA (aC 8) (aA (aC 4) aF))))
    (aO (aQ eZ))
    bF)))))))))))
   (aO (aQ eZ))))
theorem txt_mk {h : Heap} {t_MOST_ABOVE : Tok} {t_BELOW : Tok} {t_MOST_PLACES : Tok} {C_NoTie : Addr} {C_Web : Addr} {C_NoPlace : Addr} {C_CutError : Addr} {C_TooMany : Addr} {C_NoWeight : Addr} {C_NoLine : Addr} {f_NoTie__init : Addr} {od_NoTie__init an_NoTie__init : Option Addr} {sl_NoTie__init : Array (Option Value)} {oc_NoTie__init kV_NoTie__init dc_NoTie__init pm_NoTie__init cd_NoTie__init ct_NoTie__init : Value} {f_Web__init : Addr} {od_Web__init an_Web__init : Option Addr} {sl_Web__init : Array (Option Value)} {oc_Web__init kV_Web__init dc_Web__init pm_Web__init cd_Web__init ct_Web__init : Value} (X : K.In h) (G : h.Ns mainGlobals mg) (z_ValueError : PySem.W.nsIn K mainGlobals "ValueError" = some none) (z_all : PySem.W.nsIn K mainGlobals "all" = some none) (z_bool : PySem.W.nsIn K mainGlobals "bool" = some none) (z_enumerate : PySem.W.nsIn K mainGlobals "enumerate" = some none) (z_int : PySem.W.nsIn K mainGlobals "int" = some none) (z_isinstance : PySem.W.nsIn K mainGlobals "isinstance" = some none) (z_len : PySem.W.nsIn K mainGlobals "len" = some none) (z_list : PySem.W.nsIn K mainGlobals "list" = some none) (z_range : PySem.W.nsIn K mainGlobals "range" = some none) (z_sorted : PySem.W.nsIn K mainGlobals "sorted" = some none) (z_tuple : PySem.W.nsIn K mainGlobals "tuple" = some none) (u_MOST_ABOVE : PySem.W.nsIn K mainGlobals "MOST_ABOVE" = some (some (.int 1000000000000 t_MOST_ABOVE))) (u_BELOW : PySem.W.nsIn K mainGlobals "BELOW" = some (some (.int 55440 t_BELOW))) (u_MOST_PLACES : PySem.W.nsIn K mainGlobals "MOST_PLACES" = some (some (.int 40 t_MOST_PLACES))) (a_NoTie : PySem.W.nsIn K mainGlobals "NoTie" = some (some (.ref C_NoTie))) (xc_NoTie_ga : PySem.W.findIn K (.ref C_NoTie) "__getattribute__" = some (some (.builtin "BaseException.__getattribute__"))) (xc_NoTie_gh : PySem.W.findIn K (.ref C_NoTie) "__getattr__" = some none) (xc_NoTie_be : PySem.W.subIn K (.ref C_NoTie) (.type "BaseException") = some true) (xc_NoTie_cl : (PySem.W.clsIn K C_NoTie).isSome = true) (xc_NoTie_ha : PySem.W.findIn K (.ref C_NoTie) "__class__" = some (some (.builtin "object.__class__"))) (xc_NoTie_hn : PySem.W.specialIn K (.builtin "object.__class__") "__get__" = some (some (.builtin "getset_descriptor.__get__"))) (xc_NoTie_htk : PySem.W.takesIn K (.builtin "object.__class__") = some true) (xc_NoTie_hm : PySem.W.mroIn K C_NoTie (.type "object") = some true) (a_Web : PySem.W.nsIn K mainGlobals "Web" = some (some (.ref C_Web))) (cl_Web_pg : PySem.W.plainGet K C_Web Str.empty = true) (cl_Web_hd : PySem.W.hasDictIn K C_Web = true) (cl_Web_po : PySem.W.plainOver K C_Web = true) (cl_Web_sa : PySem.W.findIn K (.ref C_Web) "__setattr__" = some (some (.builtin "object.__setattr__"))) (na_Web_many : PySem.W.findIn K (.ref C_Web) "many" = some none) (a_NoPlace : PySem.W.nsIn K mainGlobals "NoPlace" = some (some (.ref C_NoPlace))) (ex_NoPlace_NoTie : PySem.W.exmOne K (.ref C_NoPlace) (.ref C_NoTie) = some false) (ex_NoTie_NoTie : PySem.W.exmOne K (.ref C_NoTie) (.ref C_NoTie) = some true) (xc_NoPlace_ga : PySem.W.findIn K (.ref C_NoPlace) "__getattribute__" = some (some (.builtin "BaseException.__getattribute__"))) (xc_NoPlace_gh : PySem.W.findIn K (.ref C_NoPlace) "__getattr__" = some none) (xc_NoPlace_be : PySem.W.subIn K (.ref C_NoPlace) (.type "BaseException") = some true) (xc_NoPlace_cl : (PySem.W.clsIn K C_NoPlace).isSome = true) (xc_NoPlace_ha : PySem.W.findIn K (.ref C_NoPlace) "__class__" = some (some (.builtin "object.__class__"))) (xc_NoPlace_hn : PySem.W.specialIn K (.builtin "object.__class__") "__get__" = some (some (.builtin "getset_descriptor.__get__"))) (xc_NoPlace_htk : PySem.W.takesIn K (.builtin "object.__class__") = some true) (xc_NoPlace_hm : PySem.W.mroIn K C_NoPlace (.type "object") = some true) (kg_NoPlace : hZ K (.ref C_NoPlace) TB_NoPlace = true) (kn_NoPlace : PySem.W.kitOne K (.type "NoneType") (.ref C_NoPlace) = some false) (xs_NoTie_at_sa : PySem.W.findIn K (.ref C_NoTie) "__setattr__" = some (some (.builtin "object.__setattr__"))) (xs_NoTie_at_ov : HW K C_NoTie = true) (xs_NoTie_at_tk : PySem.W.takerIn K C_NoTie "at" = some none) (xs_NoTie_at_hd : PySem.W.hasDictIn K C_NoTie = true) (xs_NoTie_at_na : PySem.W.findIn K (.ref C_NoTie) "at" = some none) (ex_NoPlace_NoPlace : PySem.W.exmOne K (.ref C_NoPlace) (.ref C_NoPlace) = some true) (ex_NoTie_NoPlace : PySem.W.exmOne K (.ref C_NoTie) (.ref C_NoPlace) = some false) (kg_NoTie : hZ K (.ref C_NoTie) TB_NoTie = true) (kn_NoTie : PySem.W.kitOne K (.type "NoneType") (.ref C_NoTie) = some false) (kg_ValueError : hZ K (.type "ValueError") TB_ValueError = true) (kn_ValueError : PySem.W.kitOne K (.type "NoneType") (.type "ValueError") = some false) (a_CutError : PySem.W.nsIn K mainGlobals "CutError" = some (some (.ref C_CutError))) (kg_CutError : hZ K (.ref C_CutError) TB_CutError = true) (kn_CutError : PySem.W.kitOne K (.type "NoneType") (.ref C_CutError) = some false) (a_TooMany : PySem.W.nsIn K mainGlobals "TooMany" = some (some (.ref C_TooMany))) (kg_TooMany : hZ K (.ref C_TooMany) TB_TooMany = true) (kn_TooMany : PySem.W.kitOne K (.type "NoneType") (.ref C_TooMany) = some false) (a_NoWeight : PySem.W.nsIn K mainGlobals "NoWeight" = some (some (.ref C_NoWeight))) (kg_NoWeight : hZ K (.ref C_NoWeight) TB_NoWeight = true) (kn_NoWeight : PySem.W.kitOne K (.type "NoneType") (.ref C_NoWeight) = some false) (a_NoLine : PySem.W.nsIn K mainGlobals "NoLine" = some (some (.ref C_NoLine))) (kg_NoLine : hZ K (.ref C_NoLine) TB_NoLine = true) (kn_NoLine : PySem.W.kitOne K (.type "NoneType") (.ref C_NoLine) = some false) (kp_NoTie : PySem.W.keepIn K (.ref C_NoTie) = true) (xt_NoTie : xM K C_NoTie = true) (i_NoTie__init : PySem.W.findIn K (.ref C_NoTie) "__init__" = some (some (.ref f_NoTie__init))) (l_NoTie__init : K.lookup f_NoTie__init = some ⟨oc_NoTie__init, od_NoTie__init, .func (PySem.W.fnOf "__init__" "NoTie.__init__" (cW eP) (bI eP) (aG eP) .none kV_NoTie__init dc_NoTie__init pm_NoTie__init an_NoTie__init cd_NoTie__init ct_NoTie__init), sl_NoTie__init⟩) (c_NoTie__init : PySem.W.codeIn K cd_NoTie__init "NoTie.__init__" = true) (k_NoTie__init : PySem.W.keepIn K (.ref f_NoTie__init) = true) (g_NoTie__init : PySem.W.isFn K (.ref f_NoTie__init) = true) (q_NoPlace : PySem.W.excIn K C_NoPlace bmV "ValueError.__new__" = true) (na_Web_ties : PySem.W.findIn K (.ref C_Web) "ties" = some none) (na_Web_weights : PySem.W.findIn K (.ref C_Web) "weights" = some none) (i_Web__init : PySem.W.findIn K (.ref C_Web) "__init__" = some (some (.ref f_Web__init))) (l_Web__init : K.lookup f_Web__init = some ⟨oc_Web__init, od_Web__init, .func (PySem.W.fnOf "__init__" "Web.__init__" (cW eR) (bI eR) (aG eR) .none kV_Web__init dc_Web__init pm_Web__init an_Web__init cd_Web__init ct_Web__init), sl_Web__init⟩) (c_Web__init : PySem.W.codeIn K cd_Web__init "Web.__init__" = true) (k_Web__init : PySem.W.keepIn K (.ref f_Web__init) = true) (g_Web__init : PySem.W.isFn K (.ref f_Web__init) = true) (mk_Web : PySem.W.makesIn K C_Web = true) (kp_Web : PySem.W.keepIn K (.ref C_Web) = true) (d_is_whole : Def K mg "is_whole" lD) (d_is_row : Def K mg "is_row" pS) (d_common : Def K mg "common" pN) (d_is_row_of : Def K mg "is_row_of" kF) (d_has_amount_numbers : Def K mg "has_amount_numbers" eA) (d_is_in_parts : Def K mg "is_in_parts" iK) (d_is_weight : Def K mg "is_weight" kD) (d_is_place : Def K mg "is_place" mE) (d_are_unlike_places : Def K mg "are_unlike_places" eG) (d_is_between_places : Def K mg "is_between_places" eL) (d_is_tie : Def K mg "is_tie" pL) (d_kept_ties : Def K mg "kept_ties" gW) (d__law_alone : Def K mg "_law_alone" iZ) (d__law_found : Def K mg "_law_found" jC) (d__law_is_whole : Def K mg "_law_is_whole" gC) (d__law_is_row : Def K mg "_law_is_row" iL) (d__law_least : Def K mg "_law_least" jG) (d__law_is_amount : Def K mg "_law_is_amount" eC) (d__law_is_weight : Def K mg "_law_is_weight" fQ) (d__law_first_bad : Def K mg "_law_first_bad" fP) (d__law_told : Def K mg "_law_told" kK) (d__law_stream : Def K mg "_law_stream" iF) (d__law_take : Def K mg "_law_take" kI) (d__law_pick : Def K mg "_law_pick" jU) (d__law_weight : Def K mg "_law_weight" iI) (d__law_ties : Def K mg "_law_ties" kM) (d__law_bent : Def K mg "_law_bent" jV) (d__law_any : Def K mg "_law_any" iT) (d__law_bad_tie : Def K mg "_law_bad_tie" gU) (d__law_lists : Def K mg "_law_lists" gF) (d_law : Def K mg "law" BK) : Txt K mg := by
 cases jY a_NoTie
 cases jY a_Web
 cases jY a_NoPlace
 cases jY a_CutError
 cases jY a_TooMany
 cases jY a_NoWeight
 cases jY a_NoLine
 exact ⟨(dC (PySem.W.mg_none_of X G z_ValueError) (dC (PySem.W.mg_none_of X G z_all) (dC (PySem.W.mg_none_of X G z_bool) (dC (PySem.W.mg_none_of X G z_enumerate) (dC (PySem.W.mg_none_of X G z_int) (dC (PySem.W.mg_none_of X G z_isinstance) (dC (PySem.W.mg_none_of X G z_len) (dC (PySem.W.mg_none_of X G z_list) (dC (PySem.W.mg_none_of X G z_range) (dC (PySem.W.mg_none_of X G z_sorted) (dC (PySem.W.mg_none_of X G z_tuple) KP))))))))))), ⟨_, PySem.W.mg_of X G u_MOST_ABOVE⟩, ⟨_, PySem.W.mg_of X G u_BELOW⟩, ⟨_, PySem.W.mg_of X G u_MOST_PLACES⟩, PySem.W.mg_of X G a_NoTie, ⟨⟨xc_NoTie_ga, xc_NoTie_gh, xc_NoTie_be, xc_NoTie_cl⟩, xc_NoTie_ha, xc_NoTie_hn, xc_NoTie_htk, xc_NoTie_hm⟩, PySem.W.mg_of X G a_Web, ⟨cl_Web_pg, cl_Web_hd, cl_Web_po, cl_Web_sa⟩, na_Web_many, PySem.W.mg_of X G a_NoPlace, ex_NoPlace_NoTie, ex_NoTie_NoTie, ⟨⟨xc_NoPlace_ga, xc_NoPlace_gh, xc_NoPlace_be, xc_NoPlace_cl⟩, xc_NoPlace_ha, xc_NoPlace_hn, xc_NoPlace_htk, xc_NoPlace_hm⟩, kg_NoPlace, kn_NoPlace, ⟨xs_NoTie_at_sa, xs_NoTie_at_ov, xs_NoTie_at_tk, xs_NoTie_at_hd, xs_NoTie_at_na⟩, ex_NoPlace_NoPlace, ex_NoTie_NoPlace, kg_NoTie, kn_NoTie, kg_ValueError, kn_ValueError, PySem.W.mg_of X G a_CutError, kg_CutError, kn_CutError, PySem.W.mg_of X G a_TooMany, kg_TooMany, kn_TooMany, PySem.W.mg_of X G a_NoWeight, kg_NoWeight, kn_NoWeight, PySem.W.mg_of X G a_NoLine, kg_NoLine, kn_NoLine, kp_NoTie, xt_NoTie, DU rfl i_NoTie__init l_NoTie__init c_NoTie__init k_NoTie__init g_NoTie__init, q_NoPlace, na_Web_ties, na_Web_weights, DU rfl i_Web__init l_Web__init c_Web__init k_Web__init g_Web__init, mk_Web, kp_Web, d_is_whole, d_is_row, d_common, d_is_row_of, d_has_amount_numbers, d_is_in_parts, d_is_weight, d_is_place, d_are_unlike_places, d_is_between_places, d_is_tie, d_kept_ties, d__law_alone, d__law_found, d__law_is_whole, d__law_is_row, d__law_least, d__law_is_amount, d__law_is_weight, d__law_first_bad, d__law_told, d__law_stream, d__law_take, d__law_pick, d__law_weight, d__law_ties, d__law_bent, d__law_any, d__law_bad_tie, d__law_lists, d_law⟩
end
end Q5
end
end
section
set_option linter.all false
set_option maxRecDepth 100000
set_option maxHeartbeats 4000000
namespace Q5
open PySem PySem.Spec PyProof.Rows L2
local macro_rules | `(tactic| simp! [$a,*]) => `(tactic| simp only [fnF, fnX, mW, HK, aBn, ZU, FF, DK, KH, VA, liA, liE, liS, yH, UL, JP, WW, OH, setG, nB, aAc, bC, sIf, bL, aCI, bM, cN, EU, hName, qA, dE, qH, hSub, gOr, aCN, jX, gB, BP, PP, aM, aB, aJ, aE, fC, fOp, fUn, gX, fOr, tP, fIf, tJ, asB, cL, gZ, AS, lO, rF, ES, pI, ifS, aAV, rE, AG, vE, mR, pO, ltI, leI, gtI, geI, Option.bind_some, Option.bind_none, Option.map_some, List.getElem?_cons_zero, List.getElem?_cons_succ, List.length_cons, List.length_nil, List.set_cons_zero, List.set_cons_succ, List.map_cons, List.map_nil, List.replicate_zero, List.replicate_succ, List.cons_append, List.nil_append, List.append_nil, if_true, ite_true, ite_false, Nat.reduceAdd, Nat.reduceSub, reduceIte, Bool.not_true, Bool.not_false, Bool.false_eq_true, $a,*])
def dO : PyData -> Bool
 | .int _ => true
 | _ => false
def gS : PyData -> Bool
 | .list _ => true
 | .tuple _ => true
 | _ => false
theorem dM (x : PyData) (M : Sto) : eN [.d x] M = some (.d (.bool (dO x)), M) := by cases x <;> rfl
theorem tE (x : PyData) (M : Sto) : oH [.d x] M = some (.d (.bool (gS x)), M) := by cases x <;> rfl
def cX (d : PyData) (n : Int) : Bool := match aY d with
 | some ds => ((ds.length : Int) == n)
 | none => false
theorem fL (x : PyData) (n : Int) (M : Sto) : iP [.d x, .d (.int n)] M = some (.d (.bool (cX x n)), M) := by cases x <;> rfl
theorem yT (x y : Int) : Int.gcd y (x % y) = Int.gcd x y := by
 rw [Int.gcd_comm x y]
 have : x % y = x - y * (x / y) := by have := Int.emod_add_mul_ediv x y; omega
 rw [this]
 simp
abbrev I (n : Int) : CD := .d (.int n)
theorem gI {x y : Int} (h : 0 < y) : nA x y = true := by simp [nA, h]
theorem qV (M : Sto) : ∀ (n : Nat) (x y : Int), 0 <= x -> 0 <= y -> y.toNat < n ->
 eV (BP (aE 1)) (AZ 0 1 (aB (aE 1) (aB (fOp mR (aE 0) (aE 1)) aJ))) n [some (I x), some (I y)] M = some (.nx [some (I (Int.gcd x y)), some (I 0)], M)
 | 0, _, _, _, _, h => by omega
 | n + 1, x, y, hx, hy, h => by
  by_cases e : y = 0
  · subst e
    have : (Int.gcd x 0 : Int) = x := by rw [Int.gcd_zero_right]; omega
    rw [this]
    rfl
  · have hp : 0 < y := by omega
    have ih := qV M n y (x % y) hy (Int.emod_nonneg _ e) (by have := Int.emod_lt_of_pos x hp; omega)
    rw [yT] at ih
    rw [<- ih]
    have hb : (y != 0) = true := by simp [e]
    simp only [eV, BP, aE, PP, AZ, aB, fOp, aJ, mR, pI, ifS, gI hp, hb, Option.bind, List.getElem?_cons_succ, List.getElem?_cons_zero, if_true, List.set]
theorem JM {a b : Int} (M : Sto) (ha : 0 <= a) (hb : 0 <= b) : tZ [I a, I b] M = some (I (Int.gcd a b), M) := by
 have h : nY [some (I a), some (I b)] M = _ := yZ (qV M (b.toNat + 1) a b ha hb (Nat.lt_succ_self _))
 show ((bC nY _ [some (I a), some (I b)] M).bind _) = _
 unfold bC
 rw [h]
 rfl
abbrev B (b : Bool) : CD := .d (.bool b)
def kP (d : PyData) : Bool := match aY d with
 | some [.int a, .int b] => decide (0 <= a) && decide (1 <= b)
 | _ => false
theorem JZ {x : PyData} (h : cX x 2 = true) : ∃ a b, x = .list [a, b] \/ x = .tuple [a, b] := by
 unfold cX at h
 cases x with
 | list ds =>
  have h : ((ds.length : Int) == 2) = true := h
  rcases ds with _ | ⟨a, _ | ⟨b, _ | ⟨c, r⟩⟩⟩
  · simp at h
  · simp at h
  · exact ⟨a, b, .inl rfl⟩
  · simp at h; omega
 | tuple ds =>
  have h : ((ds.length : Int) == 2) = true := h
  rcases ds with _ | ⟨a, _ | ⟨b, _ | ⟨c, r⟩⟩⟩
  · simp at h
  · simp at h
  · exact ⟨a, b, .inr rfl⟩
  · simp at h; omega
 | _ => simp [aY] at h
theorem uG {x : PyData} (h : cX x 2 = false) : kP x = false := by
 unfold kP
 unfold cX at h
 cases q : aY x with
 | none => rfl
 | some ds =>
  rw [q] at h
  rcases ds with _ | ⟨a, _ | ⟨b, _ | ⟨c, r⟩⟩⟩
  · rfl
  · cases a <;> rfl
  · simp at h
  · cases a <;> cases b <;> rfl
theorem aCM {a b : PyData} {M : Sto} : ixF (.d (.list [a, b])) (I 0) M = some (.d a, M) := rfl
theorem aDf {a b : PyData} {M : Sto} : ixF (.d (.list [a, b])) (I 1) M = some (.d b, M) := rfl
theorem aDe {a b : PyData} {M : Sto} : ixF (.d (.tuple [a, b])) (I 0) M = some (.d a, M) := rfl
theorem aCU {a b : PyData} {M : Sto} : ixF (.d (.tuple [a, b])) (I 1) M = some (.d b, M) := rfl
theorem aBH {p q : Bool} {M : Sto} : (if p = true then some (B q, M) else some (B false, M)) = some (B (p && q), M) := by cases p <;> rfl
theorem cS (x : PyData) (M : Sto) : bT [.d x] M = some (B (kP x), M) := by
 cases h : cX x 2 with
 | false =>
  rw [uG h]
  simp! [bT, cA, fL, h]
 | true =>
  obtain ⟨a, b, rfl | rfl⟩ := JZ h
  · cases a <;> cases b <;> first | rfl | (rename_i a b; simp! [bT, cA, fL, h, dM, aCM, aDf, dO, aBH]; rfl)
  · cases a <;> cases b <;> first | rfl | (rename_i a b; simp! [bT, cA, fL, h, dM, aDe, aCU, dO, aBH]; rfl)
def P (k : Bool) (a b : Int) : PyData := if k then .list [.int a, .int b] else .tuple [.int a, .int b]
theorem AM {k : Bool} {a b : Int} {M : Sto} : ixF (.d (P k a b)) (I 0) M = some (I a, M) := by cases k <;> rfl
theorem HJ {k : Bool} {a b : Int} {M : Sto} : ixF (.d (P k a b)) (I 1) M = some (I b, M) := by cases k <;> rfl
theorem qE {i j : Int} {M : Sto} : eqX false (I i) (I j) M = some (B (i == j), M) := rfl
theorem rA {i j : Int} {M : Sto} : eqX true (I i) (I j) M = some (B (!(i == j)), M) := rfl
theorem jK {i j : Int} {M : Sto} : eU (I i) (I j) M = some (I (i + j), M) := rfl
theorem JX {k : Bool} {a b : Int} : kP (P k a b) = (decide (0 <= a) && decide (1 <= b)) := by cases k <;> rfl
def oR (a b : Int) : Bool := decide (0 <= a) && decide (1 <= b) && (Int.gcd a b == 1)
theorem aDd (n m : Nat) : ((n : Int) == (m : Int)) = (n == m) := by
 rw [Bool.eq_iff_iff]; simp; omega
def gQ (a b : Int) : Bool := decide (0 <= a) && decide (1 <= b) && (55440 % b == 0) && (Int.gcd a b == 1) && decide (a <= 1000000000000)
theorem nN (k : Bool) (a b : Int) (M : Sto) : cK [.d (P k a b)] M = some (B (decide (0 <= a) && decide (1 <= b) && (55440 % b == 0) && (Int.gcd a b == 1)), M) := by
 cases h : (decide (0 <= a) && decide (1 <= b)) with
 | false =>
  simp! [cK, dW, cS, JX, h, Bool.false_and]
 | true =>
  have hh := h
  rw [Bool.and_eq_true] at h
  have h1 := of_decide_eq_true h.1
  have h2 := of_decide_eq_true h.2
  have hm : nA 55440 b = true := gI (by omega)
  cases h3 : (55440 % b == 0) with
  | false => simp! [cK, dW, cS, JX, hh, AM, HJ, hm, qE, h3, Bool.true_and, Bool.false_and]
  | true =>
   simp! [cK, dW, cS, JX, hh, AM, HJ, hm, qE, h3, Bool.true_and, JM M h1 (Int.le_trans (by decide) h2)]
   rw [show (1 : Int) = ((1 : Nat) : Int) from rfl, aDd]
theorem zH (k : Bool) (a b : Int) (M : Sto) : eQ [.d (P k a b)] M = some (B (gQ a b), M) := by
 cases h : (decide (0 <= a) && decide (1 <= b) && (55440 % b == 0) && (Int.gcd a b == 1)) with
 | false =>
  have e : gQ a b = false := by unfold gQ; rw [h]; rfl
  rw [e]
  simp! [eQ, gL, nN, h]
 | true =>
  have e : gQ a b = decide (a <= 1000000000000) := by unfold gQ; rw [h]; rfl
  rw [e]
  simp! [eQ, gL, nN, h, AM]
theorem sR (M : Sto) (a b : Int) : ∀ (n : Nat) (x y : Int), 0 <= x -> 0 <= y -> y.toNat < n ->
 eV (gB (fOp gtI (aE 3) (fC (.int 0)))) (AZ 2 3 (aB (aE 3) (aB (fOp mR (aE 2) (aE 3)) aJ))) n [some (I a), some (I b), some (I x), some (I y)] M = some (.nx [some (I a), some (I b), some (I (Int.gcd x y)), some (I 0)], M)
 | 0, _, _, _, _, h => by omega
 | n + 1, x, y, hx, hy, h => by
  by_cases e : y = 0
  · subst e
    have : (Int.gcd x 0 : Int) = x := by rw [Int.gcd_zero_right]; omega
    rw [this]
    rfl
  · have hp : 0 < y := by omega
    have ih := sR M a b n y (x % y) hy (Int.emod_nonneg _ e) (by have := Int.emod_lt_of_pos x hp; omega)
    rw [yT] at ih
    rw [<- ih]
    have hb : decide (0 < y) = true := decide_eq_true hp
    simp! [eV, AZ, gI hp, hb]
theorem wU {a b : Int} (h : 1 <= b) : 1 <= (Int.gcd a b : Int) := by
 have : Int.gcd a b ≠ 0 := fun z => by have := (Int.gcd_eq_zero_iff.mp z).2; omega
 omega
theorem YL {a b : Int} (h : 1 <= b) : (Int.gcd a b : Int) <= b := Int.le_of_dvd (by omega) (Int.gcd_dvd_right a b)
theorem wsm {y : Int} (h : 0 <= y) (h2 : y < 2 ^ 200) : y.natAbs < lK := by
 have h1 : y.natAbs < 2 ^ 200 := by omega
 exact Nat.lt_of_lt_of_le h1 (Nat.pow_le_pow_right (by decide) (by decide))
theorem DW {x y : Int} (h : 0 < y) (h2 : y.natAbs < lK) : vN x y = true := by simp [vN, h, h2]
theorem xO {a b : Int} (M : Sto) (ha : 0 <= a) (hb : 1 <= b) (hw : b.natAbs < lK) : fS [I a, I b] M = some (.d (.tuple [.int (a / (Int.gcd a b : Int)), .int (b / (Int.gcd a b : Int))]), M) := by
 have h : lA [some (I a), some (I b), some (I a), some (I b)] M = _ := yZ (sR M a b (b.toNat + 1) a b ha (by omega) (Nat.lt_succ_self _))
 have g1 := wU (a := a) hb
 have g2 := YL (a := a) hb
 have d1 : ∀ x, vN x (Int.gcd a b : Int) = true := fun x => DW (by omega) (Nat.lt_of_le_of_lt (by omega) hw)
 have sz : (2 : Nat) <= sizeLine := by decide
 simp! [fS, kJ, h, d1, sz]
theorem jS (k : Bool) (a b : Int) (M : Sto) : dX [.d (P k a b)] M = some (B true, M) := by cases k <;> rfl
theorem nZ (k : Bool) (a b : Int) (M : Sto) : fH [some (.d (P k a b))] M = some (.d (.list [.bool true, .bool true]), M) := by cases k <;> rfl
theorem DG (k : Bool) (a b : Int) (M : Sto) : gN [.d (P k a b)] M = some (I 2, M) := by cases k <;> rfl
theorem CZ (M : Sto) : DA [.d (.list [.bool true, .bool true])] M = some (B true, M) := rfl
theorem aCT {a b c d : Int} {M : Sto} : eqX false (.d (.tuple [.int a, .int b])) (.d (.tuple [.int c, .int d])) M = some (B (a == c && (b == d && true)), M) := rfl
theorem NZ {a b : Int} (ha : 0 <= a) (hb : 1 <= b) : ((a / (Int.gcd a b : Int) == a) && ((b / (Int.gcd a b : Int) == b) && true)) = (Int.gcd a b == 1) := by
 have g1 := wU (a := a) hb
 by_cases h : Int.gcd a b = 1
 · rw [h]; simp
 · have hb2 : b / (Int.gcd a b : Int) < b := Int.ediv_lt_self_of_pos_of_ne_one (by omega) (by omega)
   have e1 : (b / (Int.gcd a b : Int) == b) = false := by rw [beq_eq_false_iff_ne]; omega
   have e2 : (Int.gcd a b == 1) = false := by rw [beq_eq_false_iff_ne]; exact h
   rw [e1, e2]
   simp
theorem fB (k : Bool) (a b : Int) (M : Sto) (hw : b.natAbs < lK) : bG [.d (P k a b)] M = some (B (oR a b), M) := by
 have h2 : ((2 : Int) == 2) = true := rfl
 by_cases ha : 0 <= a
 · by_cases hb : 1 <= b
   · have e : oR a b = (Int.gcd a b == 1) := by unfold oR; rw [decide_eq_true ha, decide_eq_true hb]; rfl
     have n1 : decide (a < 0) = false := decide_eq_false (by omega)
     have n2 : decide (b < 1) = false := decide_eq_false (by omega)
     have sz : (2 : Nat) <= sizeLine := by decide
     rw [e, <- NZ ha hb]
     simp! [bG, bR, jS, DG, rA, h2, nZ, CZ, AM, HJ, n1, n2, xO M ha hb hw, sz, aCT]
   · have e : oR a b = false := by unfold oR; rw [decide_eq_false hb]; simp
     have n2 : decide (b < 1) = true := decide_eq_true (by omega)
     have n1 : decide (a < 0) = false := decide_eq_false (by omega)
     rw [e]
     simp! [bG, bR, jS, DG, rA, h2, nZ, CZ, AM, HJ, n1, n2]
 · have e : oR a b = false := by unfold oR; rw [decide_eq_false ha]; simp
   have n1 : decide (a < 0) = true := decide_eq_true (by omega)
   rw [e]
   simp! [bG, bR, jS, DG, rA, h2, nZ, CZ, AM, HJ, n1]
theorem HY {a b : Int} : gQ a b = (oR a b && (decide (a <= 10 ^ (12 : Int).toNat) && (55440 % b == 0))) := by
 unfold gQ oR
 show _ = (_ && (decide (a <= 1000000000000) && _))
 cases decide (0 <= a) <;> cases decide (1 <= b) <;> cases (55440 % b == 0) <;> cases (Int.gcd a b == 1) <;> cases decide (a <= 1000000000000) <;> rfl
theorem rC (k : Bool) (a b : Int) (M : Sto) (hw : b.natAbs < lK) : bS [.d (P k a b)] M = some (B (gQ a b), M) := by
 have hp : qK 10 12 = true := by decide
 rw [HY]
 cases h : oR a b with
 | false => simp! [bS, cM, fB k a b M hw, h, Bool.false_and]
 | true =>
  have hb : 0 < b := by
   unfold oR at h
   simp only [Bool.and_eq_true, decide_eq_true_eq] at h
   omega
  cases h2 : decide (a <= 10 ^ (12 : Int).toNat) with
  | false => simp! [bS, cM, fB k a b M hw, h, Bool.true_and, Bool.false_and, AM, hp, h2]
  | true => simp! [bS, cM, fB k a b M hw, h, Bool.true_and, AM, HJ, hp, h2, gI hb, qE]
def Stm (M : Sto) (i : Nat) : Prop := ∃ a b : Int, M[i]? = some (.lst [I a, I b]) /\ 0 <= a /\ 0 <= b /\ b < 2 ^ 40
def Nxt (i : Nat) (M M' : Sto) : Prop := ∃ a b : Int, M' = M.set i (.lst [I a, I b]) /\ 0 <= a /\ 0 <= b /\ b < 2 ^ 40
theorem Stm.lt {M : Sto} {i : Nat} (h : Stm M i) : i < M.length := by
 obtain ⟨a, b, h, _⟩ := h
 exact (List.getElem?_eq_some_iff.mp h).1
theorem Nxt.stm {M M' : Sto} {i : Nat} (n : Nxt i M M') (h : Stm M i) : Stm M' i := by
 obtain ⟨a, b, rfl, r⟩ := n
 exact ⟨a, b, by rw [List.getElem?_set_self h.lt], r⟩
theorem Nxt.trans {M M1 M2 : Sto} {i : Nat} (n : Nxt i M M1) (m : Nxt i M1 M2) : Nxt i M M2 := by
 obtain ⟨a, b, rfl, _⟩ := n
 obtain ⟨c, d, rfl, r⟩ := m
 exact ⟨c, d, by rw [List.set_set], r⟩
theorem aCD {i : Nat} {x y : CD} {M : Sto} (h : M[i]? = some (.lst [x, y])) : ixF (.c i) (I 0) M = some (x, M) := by
 unfold ixF; dsimp only; rw [h]; rfl
theorem aCy {i : Nat} {x y : CD} {M : Sto} (h : M[i]? = some (.lst [x, y])) : ixF (.c i) (I 1) M = some (y, M) := by
 unfold ixF; dsimp only; rw [h]; rfl
theorem aBR {i : Nat} {x y z : CD} {M : Sto} (h : M[i]? = some (.lst [x, y])) : yD (.c i) (I 0) z M = some (M.set i (.lst [z, y])) := by
 unfold yD; dsimp only; rw [h]; rfl
theorem aCg {i : Nat} {x y z : CD} {M : Sto} (h : M[i]? = some (.lst [x, y])) : yD (.c i) (I 1) z M = some (M.set i (.lst [x, z])) := by
 unfold yD; dsimp only; rw [h]; rfl
theorem yA {x y : Int} (h : y.natAbs < 2 ^ 64) : lT x y = true := by simp only [lT, decide_eq_true h, Bool.or_true, Bool.true_or]
theorem RK {x y : Int} (h : x.natAbs < 2 ^ 64) : lT x y = true := by simp only [lT, decide_eq_true h, Bool.true_or]
theorem dB {M : Sto} {i : Nat} {m : Int} (h : Stm M i) (m0 : 0 < m) (m1 : m < 2 ^ 200) : ∃ r M', aR [.c i, I m] M = some (I r, M') /\ 0 <= r /\ r < m /\ Nxt i M M' := by
 obtain ⟨a, b, hM, a0, b0, b1⟩ := h
 have lt : i < M.length := (List.getElem?_eq_some_iff.mp hM).1
 cases e : (a == 0) with
 | true =>
  have q0 := Int.emod_nonneg (b * 48271 + 12345) (b := 2147483647) (by decide)
  have q1 := Int.emod_lt_of_pos (b * 48271 + 12345) (b := 2147483647) (by decide)
  have o1 : lT b 48271 = true := yA (by decide)
  have o2 : nA (b * 48271 + 12345) 2147483647 = true := gI (by decide)
  obtain ⟨c, hc⟩ : ∃ c, (b * 48271 + 12345) % 2147483647 = c := ⟨_, rfl⟩
  rw [hc] at q0 q1
  have hM1 : (M.set i (.lst [I a, I c]))[i]? = some (.lst [I a, I c]) := by rw [List.getElem?_set_self lt]
  have o3 : lT c c = true := yA (by omega)
  have o4 : nA (c * c) 2147483629 = true := gI (by decide)
  have o5 : nA (c * c % 2147483629) m = true := gI m0
  refine ⟨c * c % 2147483629 % m, M.set i (.lst [I a, I c]), ?_, Int.emod_nonneg _ (by omega), Int.emod_lt_of_pos _ m0, a, c, rfl, a0, q0, by omega⟩
  simp! [aR, iS, aCD hM, aCy hM, qE, jK, e, o1, o2, hc, aCg hM, aCy hM1, o3, o4, o5]
 | false =>
  have o1 : nA a m = true := gI m0
  have o2 : vN a m = true := DW m0 (wsm (by omega) m1)
  refine ⟨a % m, M.set i (.lst [I (a / m), I b]), ?_, Int.emod_nonneg _ (by omega), Int.emod_lt_of_pos _ m0, a / m, b, rfl, Int.ediv_nonneg a0 (by omega), b0, b1⟩
  simp! [aR, iS, aCD hM, qE, e, o1, o2, aBR hM]
theorem ixL {ds : List PyData} {j : Nat} {d : PyData} {M : Sto} (h : ds[j]? = some d) : ixF (.d (.list ds)) (I j) M = some (.d d, M) := by
 have hlt : j < ds.length := (List.getElem?_eq_some_iff.mp h).1
 have e : atI ds (j : Int) = some d := FD h
 unfold ixF
 dsimp only
 show (some ds).bind _ = _
 rw [Option.bind_some, e]
 rfl
theorem CP {M : Sto} {i : Nat} {ds : List PyData} (h : Stm M i) (h0 : 0 < ds.length) (h1 : ds.length < 1000) : ∃ d M', dF [.c i, .d (.list ds)] M = some (.d d, M') /\ d ∈ ds /\ Nxt i M M' := by
 obtain ⟨r, M', e, r0, r1, n⟩ := dB (m := (ds.length : Int)) h (by omega) (by omega)
 have hlt : r.toNat < ds.length := by omega
 have hd : ds[r.toNat]? = some ds[r.toNat] := List.getElem?_eq_getElem hlt
 have hr : (r.toNat : Int) = r := Int.toNat_of_nonneg r0
 have hx := ixL (M := M') hd
 rw [hr] at hx
 have hl : gN [.d (.list ds)] M = some (I ds.length, M) := rfl
 refine ⟨ds[r.toNat], M', ?_, List.getElem_mem hlt, n⟩
 simp! [dF, lJ, hl, e, hx]
abbrev T2 (a b : Int) : CD := .d (.tuple [.int a, .int b])
theorem vB {a b : Int} (h0 : 0 <= a) (h1 : a <= 1000000000000) (h2 : 1 <= b) (h3 : b ∣ 55440) : gQ (a / (Int.gcd a b : Int)) (b / (Int.gcd a b : Int)) = true := by
 have g1 := wU (a := a) h2
 have gd : ((Int.gcd a b : Int)) ∣ b := Int.gcd_dvd_right a b
 have e1 : 0 <= a / (Int.gcd a b : Int) := Int.ediv_nonneg h0 (by omega)
 have e2 : a / (Int.gcd a b : Int) <= 1000000000000 := Int.le_trans (Int.ediv_le_self _ h0) h1
 have e3 : 0 < b / (Int.gcd a b : Int) := Int.ediv_pos_of_pos_of_dvd (by omega) (by omega) gd
 have e4 : 55440 % (b / (Int.gcd a b : Int)) = 0 := Int.emod_eq_zero_of_dvd (Int.dvd_trans (Int.ediv_dvd_of_dvd gd) h3)
 have e5 : Int.gcd (a / (Int.gcd a b : Int)) (b / (Int.gcd a b : Int)) = 1 := Int.gcd_ediv_gcd_ediv_gcd (by omega)
 unfold gQ
 rw [e4, e5, decide_eq_true e1, decide_eq_true (show 1 <= b / (Int.gcd a b : Int) by omega), decide_eq_true e2]
 rfl
theorem VP {a b : Int} (h : gQ a b = true) : 0 <= a /\ a <= 1000000000000 /\ 1 <= b /\ b <= 55440 := by
 unfold gQ at h
 simp only [Bool.and_eq_true, decide_eq_true_eq, beq_iff_eq] at h
 obtain ⟨⟨⟨⟨h1, h2⟩, h3⟩, _⟩, h5⟩ := h
 exact ⟨h1, h5, h2, Int.le_of_dvd (by decide) (Int.dvd_of_emod_eq_zero h3)⟩
def six : List PyData := [.tuple [.int 1, .int 1], .tuple [.int 1, .int 1], .tuple [.int 2, .int 1], .tuple [.int 1, .int 2], .tuple [.int 3, .int 4], .tuple [.int 0, .int 1]]
def belows : List PyData := [.int 1, .int 2, .int 3, .int 5, .int 7, .int 8, .int 9, .int 11, .int 12, .int 16, .int 35, .int 99, .int 720, .int 5040, .int 27720, .int 55440]
theorem JI {d : PyData} (h : d ∈ belows) : ∃ n : Int, d = .int n /\ 1 <= n /\ n ∣ 55440 /\ n <= 55440 := by
 unfold belows at h
 simp only [List.mem_cons, List.not_mem_nil, or_false] at h
 rcases h with rfl | rfl | rfl | rfl | rfl | rfl | rfl | rfl | rfl | rfl | rfl | rfl | rfl | rfl | rfl | rfl <;> exact ⟨_, rfl, by decide, by decide, by decide⟩
theorem aAO {r : Int} (h0 : 0 <= r) (h1 : r < 6) (M : Sto) : ∃ a b, ixF (.d (.list six)) (I r) M = some (T2 a b, M) /\ gQ a b = true := by
 have cs : r = 0 \/ r = 1 \/ r = 2 \/ r = 3 \/ r = 4 \/ r = 5 := by omega
 rcases cs with rfl | rfl | rfl | rfl | rfl | rfl <;> exact ⟨_, _, rfl, by decide⟩
theorem aCO (γ : Ga) (M : Sto) : kU γ M = some (.d (.list six), M) := rfl
theorem aBD (γ : Ga) (M : Sto) : kS γ M = some (.d (.list belows), M) := rfl
theorem PB {x y z w r : Int} (h0 : 0 <= r) (h1 : r < 4) (M : Sto) : ∃ c, ixF (.d (.list [.int x, .int y, .int z, .int w])) (I r) M = some (I c, M) /\ (c = x \/ c = y \/ c = z \/ c = w) := by
 have cs : r = 0 \/ r = 1 \/ r = 2 \/ r = 3 := by omega
 rcases cs with rfl | rfl | rfl | rfl
 · exact ⟨x, rfl, .inl rfl⟩
 · exact ⟨y, rfl, .inr (.inl rfl)⟩
 · exact ⟨z, rfl, .inr (.inr (.inl rfl))⟩
 · exact ⟨w, rfl, .inr (.inr (.inr rfl))⟩
theorem BG {M : Sto} {i : Nat} (h : Stm M i) : ∃ a b M', bX [.c i] M = some (T2 a b, M') /\ gQ a b = true /\ Nxt i M M' := by
 obtain ⟨r, M1, e1, r0, r1, n1⟩ := dB (m := 8) h (by decide) (by decide)
 have s1 := n1.stm h
 cases c : decide (r < 6) with
 | true =>
  obtain ⟨a, b, e2, w⟩ := aAO r0 (of_decide_eq_true c) M1
  refine ⟨a, b, M1, ?_, w, n1⟩
  simp! [bX, eY, e1, c, aCO, e2]
 | false =>
  obtain ⟨d, M2, e2, hd, n2⟩ := CP (ds := belows) s1 (by decide) (by decide)
  obtain ⟨n, rfl, b0, b1, b2⟩ := JI hd
  have s2 := n2.stm s1
  obtain ⟨t, M3, e3, t0, t1, n3⟩ := dB (m := 1000) s2 (by decide) (by decide)
  have s3 := n3.stm s2
  cases c7 : (r == 7) with
  | false =>
   refine ⟨_, _, M3, ?_, vB t0 (by omega) b0 b1, (n1.trans n2).trans n3⟩
   simp! [bX, eY, e1, c, aBD, e2, e3, qE, c7, xO M3 t0 b0 (wsm (by omega) (by omega))]
  | true =>
   obtain ⟨u, M4, e4, u0, u1, n4⟩ := dB (m := 1000) s3 (by decide) (by decide)
   have s4 := n4.stm s3
   obtain ⟨v, M5, e5, v0, v1, n5⟩ := dB (m := 4) s4 (by decide) (by decide)
   obtain ⟨x, e6, hx⟩ := PB (x := 10 ^ (12 : Int).toNat) (y := 10 ^ (12 : Int).toNat - 1) (z := 1) (w := 10 ^ (9 : Int).toNat + u) v0 v1 M5
   have q1 : (10 : Int) ^ (12 : Int).toNat = 1000000000000 := rfl
   have q2 : (10 : Int) ^ (9 : Int).toNat = 1000000000 := rfl
   have x0 : 0 <= x /\ x <= 1000000000000 := by rw [q1, q2] at hx; omega
   have p1 : qK 10 12 = true := by decide
   have p2 : qK 10 9 = true := by decide
   have sz : (4 : Nat) <= sizeLine := by decide
   refine ⟨_, _, M5, ?_, vB x0.1 x0.2 b0 b1, (((n1.trans n2).trans n3).trans n4).trans n5⟩
   simp! [bX, eY, e1, c, aBD, e2, e3, qE, c7, p1, p2, jK, e4, sz, e5, e6, xO M5 x0.1 b0 (wsm (by omega) (by omega))]
theorem LF {ns : List Int} {k : Int} {M : Sto} (k0 : 0 <= k) (k1 : k < 1000) : ∃ M', dU [.d (.list (ns.map .int)), I k] M = some (.c M.length, M') /\ Stm M' M.length := by
 have hl : gN [.d (.list (ns.map .int))] M = some (I ns.length, M) := by
  show some (I ((ns.map PyData.int).length : Nat), M) = _
  rw [List.length_map]
 have k2 : k <= 1000 := by omega
 have kq := Int.mul_le_mul k2 k2 k0 (by decide)
 have kk : 0 <= k * k /\ k * k <= 1000000 := ⟨Int.mul_nonneg k0 k0, by omega⟩
 have o1 : lT k k = true := yA (by omega)
 have sz : (2 : Nat) <= sizeLine := by decide
 have last : ∀ x y : Int, 0 <= x -> 0 <= y -> y < 2 ^ 40 -> Stm (M ++ [.lst [I x, I y]]) M.length := fun x y h1 h2 h3 => ⟨x, y, by simp, h1, h2, h3⟩
 cases c : decide (k < (ns.length : Int)) with
 | false =>
  refine ⟨M ++ [.lst [I 0, I (k * k + 11)]], ?_, last _ _ (by decide) (by omega) (by omega)⟩
  simp! [dU, eW, hl, c, o1, jK, sz]
 | true =>
  have hk : k < (ns.length : Int) := of_decide_eq_true c
  have hlt : k.toNat < ns.length := by omega
  have hd : (ns.map PyData.int)[k.toNat]? = some (.int ns[k.toNat]) := by rw [List.getElem?_map, List.getElem?_eq_getElem hlt]; rfl
  have hx := ixL (M := M) hd
  rw [Int.toNat_of_nonneg k0] at hx
  generalize ns[k.toNat] = x at hx
  have o2 : nA x 2147483629 = true := gI (by decide)
  have p1 : qK 10 18 = true := by decide
  have q0 := Int.emod_nonneg x (b := 2147483629) (by decide)
  have q1 := Int.emod_lt_of_pos x (b := 2147483629) (by decide)
  have q18 : (10 : Int) ^ (18 : Int).toNat = 1000000000000000000 := rfl
  cases c2 : decide (x < 10 ^ (18 : Int).toNat) with
  | true =>
   refine ⟨M ++ [.lst [I 0, I (x % 2147483629 + k * k + 1)]], ?_, last _ _ (by decide) (by omega) (by omega)⟩
   simp! [dU, eW, hl, c, hx, o1, o2, p1, jK, c2, sz]
  | false =>
   have := of_decide_eq_false c2
   refine ⟨M ++ [.lst [I x, I (x % 2147483629 + k * k + 1)]], ?_, last _ _ (by omega) (by omega) (by omega)⟩
   simp! [dU, eW, hl, c, hx, o1, o2, p1, jK, c2, sz]
def fN (x : PyData) : Bool := match aY x with
 | some [.int a, .int b] => oR a b
 | _ => false
def dJ (x : PyData) : Bool := match aY x with
 | some [.int a, .int b] => gQ a b
 | _ => false
def R2' (k : Bool) (p q : PyData) : PyData := if k then .list [p, q] else .tuple [p, q]
theorem aAQ (k : Bool) (a b : Int) : R2' k (.int a) (.int b) = P k a b := rfl
theorem AH (k : Bool) (p q : PyData) : aY (R2' k p q) = some [p, q] := by cases k <;> rfl
theorem FI {x : PyData} (h : cX x 2 = true) : ∃ k p q, x = R2' k p q := by
 obtain ⟨a, b, rfl | rfl⟩ := JZ h
 · exact ⟨true, a, b, rfl⟩
 · exact ⟨false, a, b, rfl⟩
theorem DR {x : PyData} (h : kP x = true) : ∃ k a b, x = P k a b := by
 have hr : cX x 2 = true := by
  cases e : cX x 2 with
  | true => rfl
  | false => rw [uG e] at h; cases h
 obtain ⟨k, p, q, rfl⟩ := FI hr
 unfold kP at h
 rw [AH] at h
 cases p <;> cases q <;> first | exact ⟨k, _, _, rfl⟩ | simp at h
theorem QF (k : Bool) (a b : Int) : fN (P k a b) = oR a b := by cases k <;> rfl
theorem FK (k : Bool) (a b : Int) : dJ (P k a b) = gQ a b := by cases k <;> rfl
theorem qM {x : PyData} (h : kP x = false) : fN x = false := by
 unfold kP at h
 unfold fN
 split
 · rename_i a b e
   rw [e] at h
   dsimp only at h
   unfold oR
   rw [h]
   rfl
 · rfl
theorem yK {x : PyData} (h : kP x = false) : dJ x = false := by
 unfold kP at h
 unfold dJ
 split
 · rename_i a b e
   rw [e] at h
   dsimp only at h
   unfold gQ
   rw [h]
   rfl
 · rfl
theorem AR (x : PyData) (M : Sto) : eQ [.d x] M = some (B (dJ x), M) := by
 cases h : kP x with
 | false =>
  rw [yK h]
  have e : cK [.d x] M = some (B false, M) := by simp! [cK, dW, cS, h]
  simp! [eQ, gL, e]
 | true =>
  obtain ⟨k, a, b, rfl⟩ := DR h
  rw [FK]
  exact zH k a b M
theorem bN (x : PyData) (M : Sto) : dX [.d x] M = some (B (gS x), M) := by cases x <;> rfl
theorem DI {x : PyData} (h : cX x 2 = false) : fN x = false := qM (uG h)
theorem g_C (k : Bool) (p q : PyData) (M : Sto) : fH [some (.d (R2' k p q))] M = some (.d (.list [.bool (dO p), .bool (dO q)]), M) := by
 cases k <;> cases p <;> cases q <;> rfl
theorem aCH (a b : Bool) (M : Sto) : DA [.d (.list [.bool a, .bool b])] M = some (B (a && (b && true)), M) := rfl
theorem aCf (k : Bool) (p q : PyData) (M : Sto) : gN [.d (R2' k p q)] M = some (I 2, M) := by cases k <;> rfl
theorem aAH (k : Bool) (p q : PyData) : gS (R2' k p q) = true := by cases k <;> rfl
theorem rB (x : PyData) (M : Sto) (ho : oks x = true) : bG [.d x] M = some (B (fN x), M) := by
 cases hr : cX x 2 with
 | false =>
  rw [DI hr]
  cases hi : gS x with
  | false => simp! [bG, bR, bN, hi]
  | true =>
   have key : ∀ ds : List PyData, aY x = some ds -> ((ds.length : Int) == 2) = false /\ gN [.d x] M = some (I ds.length, M) := fun ds e => by
    unfold cX at hr
    rw [e] at hr
    refine ⟨hr, ?_⟩
    unfold gN
    dsimp only
    rw [e]
    rfl
   obtain ⟨ds, e⟩ : ∃ ds, aY x = some ds := by cases x <;> first | exact ⟨_, rfl⟩ | (simp [gS] at hi)
   obtain ⟨h1, h2⟩ := key ds e
   simp! [bG, bR, bN, hi, h2, rA, h1]
 | true =>
  obtain ⟨k, p, q, rfl⟩ := FI hr
  have h2 : ((2 : Int) == 2) = true := rfl
  cases hw : (dO p && (dO q && true)) with
  | false =>
   have e : fN (R2' k p q) = false := by
    unfold fN
    rw [AH]
    cases p <;> cases q <;> first | rfl | (simp [dO] at hw)
   rw [e]
   simp! [bG, bR, bN, aAH, aCf, rA, h2, g_C, aCH, hw]
  | true =>
   obtain ⟨a, rfl⟩ : ∃ a, p = .int a := by cases p <;> first | exact ⟨_, rfl⟩ | (simp [dO] at hw)
   obtain ⟨b, rfl⟩ : ∃ b, q = .int b := by cases q <;> first | exact ⟨_, rfl⟩ | (simp [dO] at hw)
   rw [aAQ, QF]
   refine fB k a b M ?_
   have hb : b.natAbs < 2 ^ 1900 := by
    have : (oks (.int a) && (oks (.int b) && true)) = true := by cases k <;> exact ho
    simp only [Bool.and_true, Bool.and_eq_true] at this
    exact of_decide_eq_true this.2
   exact Nat.lt_of_lt_of_le hb (Nat.pow_le_pow_right (by decide) (by decide))
theorem uY {x : PyData} (h : fN x = false) : dJ x = false := by
 unfold fN at h
 unfold dJ
 split
 · rename_i a b e
   rw [e] at h
   dsimp only at h
   rw [HY, h]
   rfl
 · rfl
theorem HL {x : PyData} (h : fN x = true) : ∃ k a b, x = P k a b := by
 refine DR ?_
 cases e : kP x with
 | true => rfl
 | false => rw [qM e] at h; cases h
theorem ZD {k : Bool} {a b : Int} (ho : oks (P k a b) = true) : b.natAbs < lK := by
 have hb : b.natAbs < 2 ^ 1900 := by
  have : (oks (.int a) && (oks (.int b) && true)) = true := by cases k <;> exact ho
  simp only [Bool.and_true, Bool.and_eq_true] at this
  exact of_decide_eq_true this.2
 exact Nat.lt_of_lt_of_le hb (Nat.pow_le_pow_right (by decide) (by decide))
theorem dN (x : PyData) (M : Sto) (ho : oks x = true) : bS [.d x] M = some (B (dJ x), M) := by
 cases h : fN x with
 | false =>
  rw [uY h]
  simp! [bS, cM, rB x M ho, h]
 | true =>
  obtain ⟨k, a, b, rfl⟩ := HL h
  rw [FK]
  exact rC k a b M (ZD ho)
theorem qF {ds : List PyData} (h : ∀ d ∈ ds, oks d = true) : iD ds = true := by
 induction ds with
 | nil => rfl
 | cons d ds ih =>
  show (oks d && iD ds) = true
  rw [h d List.mem_cons_self, ih fun e he => h e (List.mem_cons_of_mem _ he)]
  rfl
theorem sJ {w k : Nat} : ∀ {ds : List PyData}, (∀ d ∈ ds, wt d <= w) -> ds.length <= k -> iR ds <= k * (w + 2)
 | [], _, _ => Nat.zero_le _
 | d :: ds, h, hl => by
  cases k with
  | zero => simp at hl
  | succ k =>
   have h1 := h d List.mem_cons_self
   have h2 := sJ (w := w) (k := k) (fun e he => h e (List.mem_cons_of_mem _ he)) (by simpa using hl)
   show wt d + 2 + iR ds <= _
   rw [Nat.succ_mul]
   omega
theorem lQ {m : Nat} : ∀ {ds : List PyData}, (∀ d ∈ ds, d.depth <= m) -> PyData.depthAll ds <= m
 | [], _ => Nat.zero_le _
 | d :: ds, h => by
  show max d.depth (PyData.depthAll ds) <= m
  exact Nat.max_le.mpr ⟨h d List.mem_cons_self, lQ fun e he => h e (List.mem_cons_of_mem _ he)⟩
theorem Fit.list {w m k : Nat} {ds : List PyData} (h : ∀ d ∈ ds, Fit w m d) (hl : ds.length <= k) : Fit (k * (w + 2) + 3) (m + 1) (.list ds) :=
 ⟨qF fun d hd => (h d hd).ok, Nat.add_le_add_right (sJ (fun d hd => (h d hd).wt) hl) 3, Nat.add_le_add_right (lQ fun d hd => (h d hd).dp) 1⟩
theorem Fit.tuple {w m k : Nat} {ds : List PyData} (h : ∀ d ∈ ds, Fit w m d) (hl : ds.length <= k) : Fit (k * (w + 2) + 3) (m + 1) (.tuple ds) :=
 ⟨qF fun d hd => (h d hd).ok, Nat.add_le_add_right (sJ (fun d hd => (h d hd).wt) hl) 3, Nat.add_le_add_right (lQ fun d hd => (h d hd).dp) 1⟩
theorem Fit.int {i : Int} (h : i.natAbs < 2 ^ 1900) : Fit 2000 0 (.int i) := ⟨decide_eq_true h, Nat.le_refl _, Nat.le_refl _⟩
theorem cR {i : Int} (h : i.natAbs < 2 ^ 200) : i.natAbs < 2 ^ 1900 := Nat.lt_of_lt_of_le h (Nat.pow_le_pow_right (by decide) (by decide))
theorem Fit.dictA {w m : Nat} {d : PyData} (f : Fit w m d) : Fit (w + 2050) (m + 1) (.dict [(.int 0, d), (.str "a", .none)]) := by
 refine ⟨?_, ?_, ?_⟩
 · show ((oks (.int 0) && oks d && (oks (.str "a") && oks .none && true))) = true
   rw [f.ok]
   decide +kernel
 · have h1 := f.wt
   show (wt (.int 0) + wt d + 4 + (wt (.str "a") + wt .none + 4 + 0)) + 3 <= _
   have e1 : wt (.int 0) = 2000 := rfl
   have e2 : wt (.str "a") = 3 := by decide +kernel
   have e3 : wt PyData.none = 4 := rfl
   omega
 · have h1 := f.dp
   show max (max 0 d.depth) (max (max 0 0) 0) + 1 <= _
   omega
mutual
def fV : PyData -> PyData
 | .tuple xs => .list (bV xs)
 | .none => .none
 | .bool b => .bool b
 | .int i => .int i
 | .str x => .str x
 | .list xs => .list xs
 | .dict kvs => .dict kvs
def bV : List PyData -> List PyData
 | [] => []
 | x :: xs => fV x :: bV xs
end
mutual
theorem tK : ∀ d : PyData, wt (fV d) = wt d /\ oks (fV d) = oks d /\ (fV d).depth = d.depth
 | .tuple xs => by
  obtain ⟨h1, h2, h3⟩ := nI xs
  exact ⟨by show iR (bV xs) + 3 = _; rw [h1]; rfl, h2, by show PyData.depthAll (bV xs) + 1 = _; rw [h3]; rfl⟩
 | .none => ⟨rfl, rfl, rfl⟩
 | .bool _ => ⟨rfl, rfl, rfl⟩
 | .int _ => ⟨rfl, rfl, rfl⟩
 | .str _ => ⟨rfl, rfl, rfl⟩
 | .list _ => ⟨rfl, rfl, rfl⟩
 | .dict _ => ⟨rfl, rfl, rfl⟩
theorem nI : ∀ ds : List PyData, iR (bV ds) = iR ds /\ iD (bV ds) = iD ds /\ PyData.depthAll (bV ds) = PyData.depthAll ds
 | [] => ⟨rfl, rfl, rfl⟩
 | x :: xs => by
  obtain ⟨h1, h2, h3⟩ := tK x
  obtain ⟨k1, k2, k3⟩ := nI xs
  refine ⟨?_, ?_, ?_⟩
  · show wt (fV x) + 2 + iR (bV xs) = _; rw [h1, k1]; rfl
  · show (oks (fV x) && iD (bV xs)) = _; rw [h2, k2]; rfl
  · show max (fV x).depth (PyData.depthAll (bV xs)) = _; rw [h3, k3]; rfl
end
theorem Fit.lists {n m : Nat} {d : PyData} (f : Fit n m d) : Fit n m (fV d) := by
 obtain ⟨h1, h2, h3⟩ := tK d
 exact ⟨by rw [h2]; exact f.ok, by rw [h1]; exact f.wt, by rw [h3]; exact f.dp⟩
theorem lV : ∀ ds : List PyData, lO (ds.map .d) = some ds
 | [] => rfl
 | d :: ds => by
  show (lO (ds.map .d)).map (d :: ·) = _
  rw [lV ds]
  rfl
theorem tN {self : FN} {M : Sto} {s : Option CD} : ∀ {ds : List PyData}, (∀ d ∈ ds, self [.d d] M = some (.d (fV d), M)) -> ∀ s, lcF (hName 0) nU (aM self (aB (aE 0) aJ)) (ds.map .d) [s] M = some ((bV ds).map .d, M)
 | [], _, s => rfl
 | d :: ds, h, s => by
  have e := h d List.mem_cons_self
  have ih := tN (s := s) (fun e he => h e (List.mem_cons_of_mem _ he)) (some (.d d))
  show (Option.bind ((self [.d d] M)) fun r => (lcF (hName 0) nU (aM self (aB (aE 0) aJ)) (ds.map .d) [some (.d d)] r.2).bind fun q => some (r.1 :: q.1, q.2)) = _
  rw [e, Option.bind_some]
  dsimp only
  rw [ih]
  rfl
theorem vU : ∀ ds : List PyData, 2 * ds.length <= iR ds
 | [] => Nat.zero_le _
 | d :: ds => by
  have := vU ds
  show 2 * (ds.length + 1) <= wt d + 2 + iR ds
  omega
theorem vZ {m : Nat} : ∀ {ds : List PyData}, PyData.depthAll ds <= m -> ∀ d ∈ ds, d.depth <= m
 | [], _, d, hd => absurd hd (by simp)
 | x :: xs, h, d, hd => by
  have h' : max x.depth (PyData.depthAll xs) <= m := h
  rcases List.mem_cons.mp hd with rfl | hd
  · omega
  · exact vZ (by omega) d hd
theorem IC : ∀ {ds : List PyData}, ∀ d ∈ ds, wt d <= iR ds
 | [], d, hd => absurd hd (by simp)
 | x :: xs, d, hd => by
  show _ <= wt x + 2 + iR xs
  rcases List.mem_cons.mp hd with rfl | hd
  · omega
  · have := IC d hd; omega
theorem DX (M : Sto) : ∀ (n : Nat) (d : PyData), d.depth < n -> wt d <= sizeLine -> bY n [.d d] M = some (.d (fV d), M)
 | 0, _, h, _ => by omega
 | n + 1, d, h, hw => by
  cases d with
  | tuple ds =>
   have h' : PyData.depthAll ds + 1 < n + 1 := h
   have hw' : iR ds + 3 <= sizeLine := hw
   have hl := vU ds
   have hs : ∀ e ∈ ds, bY n [.d e] M = some (.d (fV e), M) := fun e he => DX M n e (by have := vZ (m := PyData.depthAll ds) (Nat.le_refl _) e he; omega) (by have := IC e he; omega)
   have lp := tN (s := none) hs none
   have hlen : (bV ds).length = ds.length := by
    have : ∀ xs : List PyData, (bV xs).length = xs.length := fun xs => by
     induction xs with
     | nil => rfl
     | cons x xs ih => show (bV xs).length + 1 = _; rw [ih]; rfl
    exact this ds
   have c : lN (bY n) [some (.d (.tuple ds))] M = some (.d (.list (bV ds)), M) := by
    have e1 : nF [none] (fG (aE 0)) (hName 0) nU (aM (bY n) (aB (aE 0) aJ)) [some (.d (.tuple ds))] M = some ((bV ds).map .d, M) := by
     show (if (ds.map CD.d).length <= sizeLine then lcF (hName 0) nU (aM (bY n) (aB (aE 0) aJ)) (ds.map .d) [none] M else none) = _
     rw [if_pos (by rw [List.length_map]; omega)]
     exact lp
    show (Option.bind (nF _ _ _ _ _ _ _) _) = _
    rw [e1, Option.bind_some]
    dsimp only
    rw [lV, Option.bind_some, if_pos (by rw [hlen]; omega)]
   have ht : oZ "tuple" (.tuple ds) = true := rfl
   simp! [bY, jZ, ht, c]
   rfl
  | _ => rfl
theorem rL {ds : List PyData} {r : Int} (h0 : 0 <= r) (h1 : r < ds.length) (M : Sto) : ∃ d ∈ ds, ixF (.d (.list ds)) (I r) M = some (.d d, M) := by
 have hlt : r.toNat < ds.length := by omega
 have hd : ds[r.toNat]? = some ds[r.toNat] := List.getElem?_eq_getElem hlt
 have hx := ixL (M := M) hd
 rw [Int.toNat_of_nonneg h0] at hx
 exact ⟨_, List.getElem_mem hlt, hx⟩
theorem lU {i j : Int} {M : Sto} : eqX false (I i) (I j) M = some (B (i == j), M) := rfl
def Wn : Nat -> Nat
 | 0 => 2000
 | k + 1 => 3 * (Wn k + 2) + 3 + 2050
theorem WA : ∀ k, 2000 <= Wn k
 | 0 => Nat.le_refl _
 | k + 1 => by
  have := WA k
  show 2000 <= 3 * (Wn k + 2) + 3 + 2050
  omega
def xG : List PyData := [.int 0, .int 1, .int 2, .int 3, .int (-1), .int 40, .int 55440]
def xV : List PyData := [.bool true, .bool false, .none]
def EZ : List PyData := [.str "", .str "1", .str "1/2", .str "place", .str "tie", .str "ab"]
theorem aAj (γ : Ga) (M : Sto) : oU γ M = some (.d (.list xG), M) := rfl
theorem XI (γ : Ga) (M : Sto) : oK γ M = some (.d (.list xV), M) := rfl
theorem WX (γ : Ga) (M : Sto) : oJ γ M = some (.d (.list EZ), M) := rfl
theorem CC : ∀ d ∈ xG, Fit 2000 0 d := by
 intro d hd
 unfold xG at hd
 simp only [List.mem_cons, List.not_mem_nil, or_false] at hd
 rcases hd with rfl | rfl | rfl | rfl | rfl | rfl | rfl <;> exact Fit.int (cR (by decide))
theorem BU : ∀ d ∈ xV, Fit 2000 0 d := by
 intro d hd
 unfold xV at hd
 simp only [List.mem_cons, List.not_mem_nil, or_false] at hd
 rcases hd with rfl | rfl | rfl <;> exact ⟨rfl, by decide, Nat.le_refl _⟩
theorem HD : ∀ d ∈ EZ, Fit 2000 0 d := by
 intro d hd
 unfold EZ at hd
 simp only [List.mem_cons, List.not_mem_nil, or_false] at hd
 rcases hd with rfl | rfl | rfl | rfl | rfl | rfl <;> exact ⟨rfl, by decide +kernel, Nat.le_refl _⟩
theorem qS : ∀ ns : List Int, PyData.canLayAll0 (ns.map .int) = true
 | [] => rfl
 | n :: ns => by show (true && PyData.canLayAll0 (ns.map .int)) = true; rw [qS ns]; rfl
theorem uI : ∀ ns : List Int, PyData.depthAll (ns.map .int) = 0
 | [] => rfl
 | n :: ns => by show max 0 (PyData.depthAll (ns.map .int)) = 0; rw [uI ns]; rfl
theorem shaped_ints (ns : List Int) : SeqAt.shaped (.list (ns.map .int)) = true := by
 unfold SeqAt.shaped
 have e1 : PyData.canLay0 (.list (ns.map .int)) = true := qS ns
 have e2 : PyData.depth (.list (ns.map .int)) = 1 := by show PyData.depthAll (ns.map .int) + 1 = 1; rw [uI]
 rw [e1, e2]
 rfl
theorem ne_nil (ns : List Int) (M : Sto) : eqX true (.d (.list (ns.map .int))) (.d (.list [])) M = some (B (!ns.isEmpty), M) := by
 have e1 := shaped_ints ns
 have e2 : SeqAt.shaped (.list []) = true := rfl
 show (if (SeqAt.shaped (.list (ns.map .int)) && SeqAt.shaped (.list [])) = true then some (B (!PyData.eqv (.list (ns.map .int)) (.list [])), M) else none) = _
 rw [e1, e2]
 cases ns <;> rfl
abbrev Sc (ns : List Int) : CD := .d (.list (ns.map .int))
def Few (d : PyData) : Prop := ∀ l, aY d = some l -> l.length <= 3
def pT (f : Option (CD × Sto)) (i w m : Nat) : Prop := ∃ d M', f = some (.d d, M') /\ (Fit w m d /\ Few d) /\ Stm M' i
theorem BX {ds : List PyData} (h : ds.all (fun d => (aY d).isNone) = true) : ∀ d ∈ ds, Few d := fun d hd l e => by
 have := List.all_eq_true.mp h d hd
 rw [e] at this; cases this
theorem zM {self : FN} {i w m : Nat} {S : CD} {k : Int} (hself : ∀ M, Stm M i -> pT (self [.c i, S, I (k - 1)] M) i w m) : ∀ (xs : List CD) (s : Option CD) (M : Sto), Stm M i ->
 ∃ (ds : List PyData) (M' : Sto), lcF (hName 3) nU (aM self (aB (aE 0) (aB (aE 1) (aB (fOp rE (aE 2) (fC (.int 1))) aJ)))) xs [some (.c i), some S, some (I k), s] M = some (ds.map .d, M') /\ ds.length = xs.length /\ (∀ d ∈ ds, Fit w m d) /\ Stm M' i
 | [], s, M, h => ⟨[], M, rfl, rfl, by simp, h⟩
 | x :: xs, s, M, h => by
  obtain ⟨d, M1, e1, f1, s1⟩ := hself M h
  obtain ⟨ds, M2, e2, l2, f2, s2⟩ := zM hself xs (some x) M1 s1
  refine ⟨d :: ds, M2, ?_, by simp [l2], ?_, s2⟩
  · show (Option.bind (self [.c i, S, I (k - 1)] M) fun r => (lcF (hName 3) nU (aM self (aB (aE 0) (aB (aE 1) (aB (fOp rE (aE 2) (fC (.int 1))) aJ)))) xs [some (.c i), some S, some (I k), some x] r.2).bind fun q => some (r.1 :: q.1, q.2)) = _
    rw [e1, Option.bind_some]
    dsimp only
    rw [e2]
    rfl
  · intro y hy
    rcases List.mem_cons.mp hy with rfl | hy
    · exact f1.1
    · exact f2 y hy
theorem NG {self : FN} {i w m : Nat} {S : CD} {k : Int} {a b : Option CD} (hself : ∀ M, Stm M i -> pT (self [.c i, S, I (k - 1)] M) i w m) {M : Sto} (h : Stm M i) :
 ∃ (ds : List PyData) (M' : Sto), oG self [some (.c i), some S, some (I k), a, b] M = some (.d (.list ds), M') /\ ds.length <= 3 /\ (∀ d ∈ ds, Fit w m d) /\ Stm M' i := by
 obtain ⟨r, M1, e1, r0, r1, n1⟩ := dB (m := 4) h (by decide) (by decide)
 obtain ⟨ds, M2, e2, l2, f2, s2⟩ := zM hself (jI 0 r.toNat) none M1 (n1.stm h)
 have hlen : (jI 0 r.toNat).length = r.toNat := by simp [jI]
 have hl : ds.length <= 3 := by rw [l2, hlen]; omega
 have sz : (3 : Nat) <= sizeLine := by decide
 refine ⟨ds, M2, ?_, hl, f2, s2⟩
 have sm : fR r = true := by
  unfold fR
  rw [decide_eq_true (show -(2 ^ 62) <= r by omega), decide_eq_true (show r < 2 ^ 62 by omega)]
  rfl
 have e3 : kR (aB (aM aR (aB (aE 0) (aB (fC (.int 4)) aJ))) aJ) [some (.c i), some S, some (I k), a, b] M = some (jI 0 r.toNat, M1) := by
  simp! [kR, e1, sm]
 show (Option.bind (nF _ _ _ _ _ _ _) _) = _
 have e4 : nF [some 0, some 1, some 2, none] (kR (aB (aM aR (aB (aE 0) (aB (fC (.int 4)) aJ))) aJ)) (hName 3) nU (aM self (aB (aE 0) (aB (aE 1) (aB (fOp rE (aE 2) (fC (.int 1))) aJ)))) [some (.c i), some S, some (I k), a, b] M = some (ds.map .d, M2) := by
  unfold nF
  rw [e3, Option.bind_some]
  dsimp only
  rw [if_pos (by rw [hlen]; omega)]
  exact e2
 rw [e4, Option.bind_some]
 dsimp only
 rw [lV, Option.bind_some, if_pos (by omega)]
theorem SW {a b c e : Option CD} {d : PyData} {M : Sto} : BC [((fC (.int 0)), (aE 4)), ((fC (.str "a")), (fC .none))] [a, b, c, e, some (.d d)] M = some (.d (.dict [(.int 0, d), (.str "a", .none)]), (M ++ [Cell.dk []]).set M.length Cell.dead) := by
 have e1 : xE [((fC (.int 0)), (aE 4)), ((fC (.str "a")), (fC .none))] [a, b, c, e, some (.d d)] (M ++ [.dk []]) = some ([(I 0, .d d), (.d (.str "a"), .d .none)], M ++ [.dk []]) := rfl
 have e2 : (M ++ [Cell.dk []])[M.length]? = some (.dk []) := by simp
 have nd : (([(.inl 0, d), (.inr "a", PyData.none)] : List (Key × PyData)).map (·.1)).Nodup := by
  show ([.inl 0, .inr "a"] : List Key).Nodup
  simp
 unfold BC
 rw [e1, Option.bind_some]
 dsimp only
 rw [e2]
 have e3 : keyed [(I 0, .d d), (.d (.str "a"), .d .none)] = some [(.inl 0, d), (.inr "a", .none)] := rfl
 rw [e3, Option.bind_some, if_pos ⟨(by show 2 <= 15; decide), nd⟩]
 rfl
theorem OP {M : Sto} {i : Nat} (h : Stm M i) : Stm ((M ++ [Cell.dk []]).set M.length Cell.dead) i := by
 have hlt := h.lt
 obtain ⟨a, b, h1, r⟩ := h
 refine ⟨a, b, ?_, r⟩
 rw [List.getElem?_set_ne (by omega), List.getElem?_append_left hlt]
 exact h1
theorem UN (n : Int) (ns : List Int) (M : Sto) : ixF (Sc (n :: ns)) (I 0) M = some (I n, M) := ixL (ds := (n :: ns).map .int) (j := 0) (d := .int n) rfl
theorem int_bool (b : Bool) (M : Sto) : MB [B b] M = some (I (if b then 1 else 0), M) := rfl
theorem ZR (ds : List PyData) (M : Sto) : fW [.d (.list ds)] M = some (.d (.tuple ds), M) := rfl
theorem IU {w m : Nat} {k : Nat} {d : PyData} (f : Fit 2000 0 d) : Fit (Wn k) (2 * k) d := f.mono (WA k) (Nat.zero_le _)
theorem JO {ns : List Int} {i : Nat} (k : Nat) (self : FN) (hself : k ≠ 0 -> ∀ M, Stm M i -> pT (self [.c i, Sc ns, I ((k : Int) - 1)] M) i (Wn (k - 1)) (2 * (k - 1))) {M : Sto} (h : Stm M i) :
 pT (fnF 3 5 (cD self) [.c i, Sc ns, I (k : Int)] M) i (Wn k) (2 * k) := by
 have o3 : ∀ b : Bool, lT 3 (if b = true then 1 else 0) = true := fun b => RK (by decide)
 have sz : (0 : Nat) <= sizeLine := Nat.zero_le _
 have p1 : qK 10 40 = true := by decide
 have p2 : qK 10 39 = true := by decide
 obtain ⟨r, M1, e1, r0, r1, n1⟩ : ∃ r M1, aR [.c i, I (9 - 3 * (if ((k : Int) == 0) = true then 1 else 0))] M = some (I r, M1) /\ 0 <= r /\ r < 9 - 3 * (if ((k : Int) == 0) = true then 1 else 0) /\ Nxt i M M1 := by
  cases ((k : Int) == 0) with
  | true => exact dB (m := 9 - 3 * 1) h (by decide) (by decide)
  | false => exact dB (m := 9 - 3 * 0) h (by decide) (by decide)
 have s1 := n1.stm h
 cases c0 : (r == 0) with
 | true =>
  cases ns with
  | nil =>
   refine ⟨.int (-1), M1, ?_, ⟨IU (w := 0) (m := 0) (Fit.int (cR (by decide))), fun _ z => nomatch z⟩, s1⟩
   have ne := ne_nil [] M1
   simp! [cD, wO, lU, int_bool, o3, e1, c0, sz, ne]
   rfl
  | cons n ns =>
   have q : (10 : Int) ^ (40 : Int).toNat = 10 ^ 40 := rfl
   have q' : (10 : Int) ^ (39 : Int).toNat = 10 ^ 39 := rfl
   have m1 : nA n (10 ^ (40 : Int).toNat) = true := gI (by decide)
   have b0 := Int.emod_nonneg n (b := 10 ^ (40 : Int).toNat) (by decide)
   have b1 := Int.emod_lt_of_pos n (b := 10 ^ (40 : Int).toNat) (by decide)
   refine ⟨.int (n % 10 ^ (40 : Int).toNat - 10 ^ (39 : Int).toNat), M1, ?_, ⟨IU (w := 0) (m := 0) (Fit.int (cR (by rw [q, q'] at *; omega))), fun _ z => nomatch z⟩, s1⟩
   have ne := ne_nil (n :: ns) M1
   have em : (!(n :: ns).isEmpty) = true := rfl
   simp! [cD, lU, int_bool, o3, e1, c0, sz, ne, em, UN, p1, p2, m1]
 | false =>
  cases c1 : (r == 1) with
  | true =>
   obtain ⟨t, M2, e2, t0, t1, n2⟩ := dB (m := 7) s1 (by decide) (by decide)
   obtain ⟨d, hd, e3⟩ := rL (ds := xG) t0 t1 M2
   refine ⟨d, M2, ?_, ⟨IU (w := 0) (m := 0) (CC d hd), BX (by decide) d hd⟩, n2.stm s1⟩
   simp! [cD, lU, int_bool, o3, e1, c0, c1, e2, aAj, e3]
  | false =>
   cases c2 : (r == 2) with
   | true =>
    obtain ⟨t, M2, e2, t0, t1, n2⟩ := dB (m := 3) s1 (by decide) (by decide)
    obtain ⟨d, hd, e3⟩ := rL (ds := xV) t0 t1 M2
    refine ⟨d, M2, ?_, ⟨IU (w := 0) (m := 0) (BU d hd), BX (by decide) d hd⟩, n2.stm s1⟩
    simp! [cD, lU, int_bool, o3, e1, c0, c1, c2, e2, XI, e3]
   | false =>
    cases c6 : decide (r < 6) with
    | true =>
     obtain ⟨t, M2, e2, t0, t1, n2⟩ := dB (m := 6) s1 (by decide) (by decide)
     obtain ⟨d, hd, e3⟩ := rL (ds := EZ) t0 t1 M2
     refine ⟨d, M2, ?_, ⟨IU (w := 0) (m := 0) (HD d hd), BX (by decide) d hd⟩, n2.stm s1⟩
     simp! [cD, lU, int_bool, o3, e1, c0, c1, c2, c6, e2, WX, e3]
    | false =>
     have r6 : 6 <= r := by have := of_decide_eq_false c6; omega
     have k0 : k ≠ 0 := by
      intro z
      subst z
      have : r < 9 - 3 * (if (((0 : Nat) : Int) == 0) = true then 1 else 0) := r1
      simp at this
      omega
     obtain ⟨ds, M2, e2, l2, f2, s2⟩ := NG (S := Sc ns) (k := (k : Int)) (a := some (I r)) (b := none) (hself k0) s1
     obtain ⟨k', rfl⟩ : ∃ k', k = k' + 1 := ⟨k - 1, by omega⟩
     have f2' : ∀ d ∈ ds, Fit (Wn k') (2 * k') d := f2
     have w1 : 3 * (Wn k' + 2) + 3 <= Wn (k' + 1) := Nat.le_add_right _ _
     have d1 : 2 * k' + 1 <= 2 * (k' + 1) := by omega
     cases c7 : (r == 6) with
     | true =>
      refine ⟨.tuple ds, M2, ?_, ⟨(Fit.tuple f2' l2).mono w1 d1, fun l z => by cases z; exact l2⟩, s2⟩
      simp! [cD, lU, int_bool, o3, e1, c0, c1, c2, c6, e2, c7, ZR]
     | false =>
      cases c8 : (r == 7) with
      | true =>
       refine ⟨.list ds, M2, ?_, ⟨(Fit.list f2' l2).mono w1 d1, fun l z => by cases z; exact l2⟩, s2⟩
       simp! [cD, lU, int_bool, o3, e1, c0, c1, c2, c6, e2, c7, c8]
      | false =>
       have fd := Fit.dictA (Fit.list f2' l2)
       refine ⟨_, _, ?_, ⟨fd.mono (Nat.le_refl _) (by omega), fun _ z => nomatch z⟩, OP s2⟩
       have e3 := SW (a := some (.c i)) (b := some (Sc ns)) (c := some (I ((k' + 1 : Nat) : Int))) (e := some (I r)) (d := .list ds) (M := M2)
       simp! [cD, lU, int_bool, o3, e1, c0, c1, c2, c6, e2, c7, c8, e3]
theorem DV {ns : List Int} {i : Nat} : ∀ (n k : Nat), k < n -> ∀ {M : Sto}, Stm M i -> pT (cB n [.c i, Sc ns, I (k : Int)] M) i (Wn k) (2 * k)
 | 0, _, h, _, _ => by omega
 | n + 1, k, h, M, hs => by
  show pT (fnF 3 5 (cD (cB n)) [.c i, Sc ns, I (k : Int)] M) i (Wn k) (2 * k)
  refine JO k _ (fun k0 M' hs' => ?_) hs
  have := DV (ns := ns) n (k - 1) (by omega) hs'
  have e : ((k - 1 : Nat) : Int) = (k : Int) - 1 := by omega
  rw [e] at this
  exact this
theorem cat_tup (xs ys : List PyData) (M : Sto) (h : xs.length + ys.length <= sizeLine) : eU (.d (.tuple xs)) (.d (.tuple ys)) M = some (.d (.tuple (xs ++ ys)), M) := by
 cases xs with
 | nil => rfl
 | cons x xs =>
  show (if (x :: xs) ≠ [] /\ (x :: xs).length + ys.length <= sizeLine then some (CD.d (.tuple ((x :: xs) ++ ys)), M) else none) = _
  rw [if_pos ⟨by simp, h⟩]
theorem oA {α : Type} {xs : List α} {lo hi : Option Int} {x : α} (h : x ∈ eX xs lo hi) : x ∈ xs := List.mem_of_mem_drop (List.mem_of_mem_take h)
theorem xC {α : Type} (xs : List α) (lo hi : Option Int) : (eX xs lo hi).length <= xs.length := by
 unfold eX
 rw [List.length_take, List.length_drop]
 omega
theorem slT (xs : List PyData) (lo hi : Option Int) (M : Sto) : slF (.d (.tuple xs)) lo hi M = some (.d (.tuple (eX xs lo hi)), M) := rfl
theorem yS (i : Int) : asI (I i) = some i := rfl
theorem aAN {ds : List PyData} {r : Int} (h0 : 0 <= r) (h1 : r < ds.length) (M : Sto) : ∃ d ∈ ds, ixF (.d (.tuple ds)) (I r) M = some (.d d, M) := by
 have hlt : r.toNat < ds.length := by omega
 have hd : ds[r.toNat]? = some ds[r.toNat] := List.getElem?_eq_getElem hlt
 have e : atI ds r = some ds[r.toNat] := by
  have := FD hd
  rwa [Int.toNat_of_nonneg h0] at this
 refine ⟨_, List.getElem_mem hlt, ?_⟩
 unfold ixF
 dsimp only
 show (some ds).bind _ = _
 rw [Option.bind_some, e]
 rfl
def TR : List PyData := [.none, (.bool true), (.bool false), (.int (-1)), (.int 0), (.int 1), (.int 40), (.int 1000000000001), (.str ""), (.str "1"), (.tuple []), (.tuple [(.int 1), (.int 2)]), (.tuple [(.int 2), (.int 2)]), (.tuple [(.int 0), (.int 2)]), (.tuple [(.int 1), (.int 13)]), (.dict [])]
theorem YH (γ : Ga) (M : Sto) : mX γ M = some (.d (.list TR), M) := rfl
theorem cT {a b : Int} (ha : a.natAbs < 2 ^ 200) (hb : b.natAbs < 2 ^ 200) : Fit 4100 1 (.tuple [.int a, .int b]) :=
 (Fit.tuple (w := 2000) (m := 0) (k := 2) (ds := [.int a, .int b]) (fun d hd => by
  simp only [List.mem_cons, List.not_mem_nil, or_false] at hd
  rcases hd with rfl | rfl
  · exact Fit.int (cR ha)
  · exact Fit.int (cR hb)) (Nat.le_refl _)).mono (by decide) (Nat.le_refl _)
theorem NI : ∀ d ∈ TR, Fit 4100 1 d := by
 intro d hd
 unfold TR at hd
 simp only [List.mem_cons, List.not_mem_nil, or_false] at hd
 rcases hd with rfl | rfl | rfl | rfl | rfl | rfl | rfl | rfl | rfl | rfl | rfl | rfl | rfl | rfl | rfl | rfl
 · exact ⟨rfl, by decide, by decide⟩
 · exact ⟨rfl, by decide, by decide⟩
 · exact ⟨rfl, by decide, by decide⟩
 · exact (Fit.int (cR (by decide))).mono (by decide) (by decide)
 · exact (Fit.int (cR (by decide))).mono (by decide) (by decide)
 · exact (Fit.int (cR (by decide))).mono (by decide) (by decide)
 · exact (Fit.int (cR (by decide))).mono (by decide) (by decide)
 · exact (Fit.int (cR (by decide))).mono (by decide) (by decide)
 · exact ⟨rfl, by decide +kernel, by decide⟩
 · exact ⟨rfl, by decide +kernel, by decide⟩
 · exact ⟨rfl, by decide, by decide⟩
 · exact cT (by decide) (by decide)
 · exact cT (by decide) (by decide)
 · exact cT (by decide) (by decide)
 · exact cT (by decide) (by decide)
 · exact ⟨rfl, by decide, by decide⟩
structure Row (n : Nat) (ds : List PyData) : Prop where
 fit : ∀ d ∈ ds, Fit 4100 1 d
 len : ds.length <= n
theorem XQ {ds : List PyData} {n i : Nat} {M : Sto} (h : Stm M i) (hr : Row n ds) (h0 : 0 < ds.length) (hn : n <= 100) : ∃ es M', eJ [.c i, .d (.tuple ds)] M = some (.d (.tuple es), M') /\ Row (2 * n + 1) es /\ Nxt i M M' := by
 have hl := hr.len
 obtain ⟨p, M1, e1, p0, p1, n1⟩ := dB (m := (ds.length : Int)) h (by omega) (by omega)
 have s1 := n1.stm h
 obtain ⟨c, M2, e2, c0, c1, n2⟩ := dB (m := 4) s1 (by decide) (by decide)
 have s2 := n2.stm s1
 have hlen : gN [.d (.tuple ds)] M = some (I ds.length, M) := rfl
 have big : sizeLine = 16777216 := sizeLine_eq
 have l1 := xC ds none (some p)
 have l2 := xC ds (some (p + 1)) none
 have l3 := xC ds (some p) none
 have sz1 : (1 : Nat) <= sizeLine := by decide
 cases k0 : (c == 0) with
 | true =>
  refine ⟨eX ds none (some p) ++ eX ds (some (p + 1)) none, M2, ?_, ⟨fun d hd => ?_, by rw [List.length_append]; omega⟩, n1.trans n2⟩
  · have e3 := cat_tup (eX ds none (some p)) (eX ds (some (p + 1)) none) M2 (by omega)
    simp! [eJ, gM, fSl, cU, gP, hlen, e1, e2, lU, k0, slT, yS, jK, e3]
  · rcases List.mem_append.mp hd with hd | hd <;> exact hr.fit d (oA hd)
 | false =>
  cases k1 : (c == 1) with
  | true =>
   obtain ⟨y, hy, e4⟩ := aAN p0 p1 M2
   refine ⟨(eX ds none (some p) ++ [y]) ++ eX ds (some p) none, M2, ?_, ⟨fun d hd => ?_, by rw [List.length_append, List.length_append]; simp only [List.length_singleton]; omega⟩, n1.trans n2⟩
   · have e3 := cat_tup (eX ds none (some p)) [y] M2 (by simp only [List.length_singleton]; omega)
     have e5 := cat_tup (eX ds none (some p) ++ [y]) (eX ds (some p) none) M2 (by rw [List.length_append]; simp only [List.length_singleton]; omega)
     simp! [eJ, gM, fSl, cU, gP, hlen, e1, e2, lU, k0, k1, slT, yS, jK, e4, sz1, e3, e5]
   · rcases List.mem_append.mp hd with hd | hd
     · rcases List.mem_append.mp hd with hd | hd
       · exact hr.fit d (oA hd)
       · rw [List.mem_singleton.mp hd]; exact hr.fit y hy
     · exact hr.fit d (oA hd)
  | false =>
   obtain ⟨q, M3, e4, q0, q1, n3⟩ := dB (m := 16) s2 (by decide) (by decide)
   obtain ⟨y, hy, e5⟩ := rL (ds := TR) q0 q1 M3
   refine ⟨(eX ds none (some p) ++ [y]) ++ eX ds (some (p + 1)) none, M3, ?_, ⟨fun d hd => ?_, by rw [List.length_append, List.length_append]; simp only [List.length_singleton]; omega⟩, (n1.trans n2).trans n3⟩
   · have e3 := cat_tup (eX ds none (some p)) [y] M3 (by simp only [List.length_singleton]; omega)
     have e6 := cat_tup (eX ds none (some p) ++ [y]) (eX ds (some (p + 1)) none) M3 (by rw [List.length_append]; simp only [List.length_singleton]; omega)
     simp! [eJ, gM, fSl, cU, gP, hlen, e1, e2, lU, k0, k1, slT, yS, jK, YH, e4, e5, sz1, e3, e6]
   · rcases List.mem_append.mp hd with hd | hd
     · rcases List.mem_append.mp hd with hd | hd
       · exact hr.fit d (oA hd)
       · rw [List.mem_singleton.mp hd]; exact NI y hy
     · exact hr.fit d (oA hd)
structure Tie where
 i : Int
 j : Int
 a : Int
 b : Int
deriving DecidableEq
def Tie.key (t : Tie) : List Key := [.inl t.i, .inl t.j]
def Tie.val (t : Tie) : CD := .d (.tuple [.int t.a, .int t.b])
def bB (ts : List Tie) : List (List Key × CD) := ts.map fun t => (t.key, t.val)
theorem SV {ts : List Tie} {t : Tie} (h : ∀ s ∈ ts, s.key ≠ t.key) : lkC (bB ts) t.key = none := by
 unfold lkC bB
 rw [List.find?_map]
 have : List.find? ((fun kv => decide (kv.1 = t.key)) ∘ fun s : Tie => (s.key, s.val)) ts = none := List.find?_eq_none.mpr fun s hs => by simpa using h s hs
 rw [this]
 rfl
theorem ED {ts : List Tie} {t : Tie} (h : ∀ s ∈ ts, s.key ≠ t.key) : putD (bB ts) t.key t.val = bB (ts ++ [t]) := by
 unfold putD
 have : ((bB ts).any fun kv => decide (kv.1 = t.key)) = false := by
  rw [bB, List.any_map]
  exact List.any_eq_false.mpr fun s hs => by simpa using h s hs
 rw [this, if_neg Bool.false_ne_true]
 unfold bB
 rw [List.map_append]
 rfl
theorem sz {n : Nat} (hn : n <= 1000) : n <= sizeLine := by rw [sizeLine_eq]; exact Nat.le_trans hn (by decide)
def f1 (t : Tie) : List PyData := [.tuple [.int t.i, .int t.j], .tuple [.int t.a, .int t.b]]
def f2 (t : Tie) : List PyData := [.int t.i, .int t.j, .tuple [.int t.a, .int t.b]]
theorem LR {a b c d : Int} : PyData.eqv (.tuple [.int a, .int b]) (.tuple [.int c, .int d]) = (a == c && (b == d && true)) := rfl
theorem CG {f : Tie -> List PyData} {us : List Tie} {i : Nat} (h : i < us.length) : (us.map f).getD i [] = f us[i] := by
 rw [List.getD_eq_getElem?_getD, List.getElem?_map, List.getElem?_eq_getElem h]; rfl
def t0 : Tie := ⟨0, 0, 0, 0⟩
theorem HP (us : List Tie) : (List.range us.length).map (fun i => us.getD i t0) = us := by
 refine List.ext_getElem? fun i => ?_
 rw [List.getElem?_map]
 by_cases h : i < us.length
 · rw [List.getElem?_range h, List.getElem?_eq_getElem h]
   show some (us.getD i t0) = _
   rw [List.getD_eq_getElem?_getD, List.getElem?_eq_getElem h]; rfl
 · rw [List.getElem?_eq_none (by rw [List.length_range]; omega), List.getElem?_eq_none (by omega)]; rfl
theorem YZ {us : List Tie} {i : Nat} (h : i < us.length) : us.getD i t0 = us[i] := by
 rw [List.getD_eq_getElem?_getD, List.getElem?_eq_getElem h]; rfl
theorem aBN (s t : Tie) : (kT (f1 s) (f1 t)).isSome = true := by
 unfold f1 kT
 rw [LR]
 split
 · unfold kT
   rw [LR]
   split
   · rfl
   · rfl
 · rfl
theorem RM {us : List Tie} (h64 : us.length < 64) : ∃ vs : List Tie, vs.Perm us /\ kZ (us.map f1) = some (vs.map fun t => .tuple (f1 t)) := by
 by_cases h2 : 2 <= us.length
 · have ab : sortable (us.map f1) = true := by
    have hd : lW (us.map f1) = true := by unfold lW; rw [List.all_map]; exact List.all_eq_true.mpr fun t _ => rfl
    unfold sortable
    rw [List.length_map, decide_eq_true h2, decide_eq_true h64, hd, Bool.or_true, Bool.true_and, Bool.true_and, Bool.and_true, Bool.and_eq_true]
    refine ⟨List.all_eq_true.mpr fun r hr => ?_, List.all_eq_true.mpr fun i hi => List.all_eq_true.mpr fun j hj => ?_⟩
    · obtain ⟨t, _, rfl⟩ := List.mem_map.mp hr
      rfl
    · rw [CG (List.mem_range.mp hi), CG (List.mem_range.mp hj)]
      exact aBN _ _
   have pm := lR (n := (us.map f1).length) (oP (us.map f1)) (by rw [List.length_map]; omega)
   rw [List.length_map] at pm
   have mem : ∀ i ∈ hX (oP (us.map f1)) us.length, i < us.length := fun i hi => List.mem_range.mp (pm.mem_iff.mp hi)
   have sd : OO (us.map f1) = ((hX (oP (us.map f1)) us.length).map fun i => us.getD i t0).map fun t => .tuple (f1 t) := by
    unfold OO
    rw [List.length_map, List.map_map]
    refine List.map_congr_left fun i hi => ?_
    show PyData.tuple ((us.map f1).getD i []) = .tuple (f1 (us.getD i t0))
    rw [CG (mem i hi), YZ (mem i hi)]
   refine ⟨(hX (oP (us.map f1)) us.length).map fun i => us.getD i t0, ?_, ?_⟩
   · have := pm.map fun i => us.getD i t0
     rwa [HP] at this
   · unfold kZ
     rw [ab, if_pos rfl, sd]
 · have hl : us.length < 2 := by omega
   refine ⟨us, .refl _, ?_⟩
   unfold kZ
   have : sortable (us.map f1) = false := by
    unfold sortable
    rw [List.length_map, decide_eq_false h2]; rfl
   rw [this, if_neg Bool.false_ne_true, List.length_map, if_pos hl, List.map_map]
   rfl
def big (t : Tie) : Bool := decide (t.a > 0)
def eB (vs : List Tie) : List PyData := (vs.filter big).map fun t => .tuple (f2 t)
theorem XJ {cap : List (Option Nat)} {f : AF} {g : GF} {c : TF} {ee : EF} {γ : Ga} {M M1 M2 : Sto} {xs : List CD} {ds : List PyData} (it : f γ M = some (xs, M1)) (hl : xs.length <= sizeLine) (e : lcF g c ee xs (yP cap γ) M1 = some (ds.map .d, M2)) (hd : ds.length <= sizeLine) : fLc cap f g c ee γ M = some (.d (.list ds), M2) := by
 have h1 : nF cap f g c ee γ M = some (ds.map .d, M2) := by
  unfold nF
  rw [it, Option.bind_some, if_pos hl]
  exact e
 show (nF cap f g c ee γ M).bind _ = _
 rw [h1, Option.bind_some, lV, Option.bind_some, if_pos hd]
abbrev kG : GF := qA 2 (dE (qA 2 (dE (hName 0) (dE (hName 1) qH))) (dE (hName 2) qH))
abbrev kC : TF := gB (fOp gtI (fOp ixF (aE 2) (fC (.int 0))) (fC (.int 0)))
abbrev kE : EF := cL (aB (aE 0) (aB (aE 1) (aB (aE 2) aJ)))
theorem vD {M : Sto} : ∀ (vs : List Tie) (s1 s2 s3 : Option CD), lcF kG kC kE (vs.map fun t => .d (.tuple (f1 t))) [s1, s2, s3] M = some ((eB vs).map .d, M)
 | [], _, _, _ => rfl
 | t :: vs, s1, s2, s3 => by
  have ih := vD (M := M) vs (some (I t.i)) (some (I t.j)) (some (.d (.tuple [.int t.a, .int t.b])))
  have g1 : kG (.d (.tuple (f1 t))) [s1, s2, s3] M = some ([some (I t.i), some (I t.j), some (.d (.tuple [.int t.a, .int t.b]))], M) := rfl
  have c1 : kC [some (I t.i), some (I t.j), some (.d (.tuple [.int t.a, .int t.b]))] M = some (big t, M) := rfl
  have e1 : kE [some (I t.i), some (I t.j), some (.d (.tuple [.int t.a, .int t.b]))] M = some (.d (.tuple (f2 t)), M) := by
   have l3 : 3 <= sizeLine := sz (by decide)
   simp! [kE, f2, if_pos l3, Nat.zero_add]
  rw [List.map_cons]
  unfold lcF
  rw [g1, Option.bind_some]
  dsimp only
  rw [c1, Option.bind_some]
  dsimp only
  by_cases hb : big t = true
  · rw [if_pos hb, e1, Option.bind_some]
    dsimp only
    rw [ih, Option.bind_some]
    unfold eB
    rw [List.filter_cons_of_pos hb]
    rfl
  · rw [if_neg hb, ih]
    unfold eB
    rw [List.filter_cons_of_neg hb]
theorem zQ : ∀ us : List Tie, vO (bB us) = some (us.map fun t => (t.key, .tuple [.int t.a, .int t.b]))
 | [] => rfl
 | t :: us => by
  show (vO (bB us)).bind _ = _
  rw [zQ us]
  rfl
theorem QO (us : List Tie) : (us.map fun t => (t.key, PyData.tuple [.int t.a, .int t.b])).map BA = us.map f1 := by
 rw [List.map_map]; rfl
theorem NL {vs : List Tie} (h : vs.length <= 1000) : (eB vs).length <= sizeLine := by
 unfold eB
 rw [List.length_map]
 exact sz (Nat.le_trans (List.length_filter_le ..) h)
def aV (us : List Tie) : List PyData := us.map fun t => .tuple (f2 t)
def Ok (n : Int) (us : List Tie) : Prop := (∀ t ∈ us, gQ t.a t.b = true /\ 0 <= t.i /\ t.i < t.j /\ t.j < n) /\ (us.map Tie.key).Nodup /\ us.length < 64
theorem CW {us : List Tie} (nd : (us.map Tie.key).Nodup) : ((us.filter big).map Tie.key).Nodup := (List.filter_sublist.map Tie.key).nodup nd
theorem BB {N : Sto} : ∀ (ws ts : List Tie) (s1 s2 s3 : Option CD), ((ts ++ ws).map Tie.key).Nodup -> ts.length + ws.length < 1000 ->
 dcF N.length (qA 3 (dE (hName 0) (dE (hName 1) (dE (hName 2) qH)))) nU (uW (aB (aE 0) (aB (aE 1) aJ))) (aE 2) ((aV ws).map .d) [s1, s2, s3] (N ++ [.dt (bB ts)]) = some (N ++ [.dt (bB (ts ++ ws))])
 | [], ts, _, _, _, _, _ => by rw [List.append_nil]; rfl
 | t :: ws, ts, s1, s2, s3, nd, hl => by
  have nk : ∀ s ∈ ts, s.key ≠ t.key := fun s hs q => by
   rw [List.map_append, List.nodup_append] at nd
   exact nd.2.2 _ (List.mem_map_of_mem hs) _ (by rw [List.map_cons]; exact List.mem_cons_self) q
  have ih := BB (N := N) ws (ts ++ [t]) (some (I t.i)) (some (I t.j)) (some t.val) (by rw [List.append_assoc]; exact nd) (by rw [List.length_append]; simp only [List.length_cons, List.length_nil] at hl ⊢; omega)
  have hD : (N ++ [.dt (bB ts)])[N.length]? = some (.dt (bB ts)) := by rw [List.getElem?_append_right (Nat.le_refl _), Nat.sub_self]; rfl
  have len : (bB ts).length < sizeLine := by unfold bB; rw [List.length_map, sizeLine_eq]; omega
  have st : AY (N ++ [.dt (bB ts)]) (.c N.length) (.inr t.key) t.val = some (N ++ [.dt (bB (ts ++ [t]))]) := by
   simp only [AY, hD, if_pos len, ED nk]
   rw [List.set_append_right _ _ (Nat.le_refl _), Nat.sub_self]
   rfl
  have l2 : (Tie.key t).length <= sizeLine := sz (show 2 <= 1000 by decide)
  have kf : uW (aB (aE 0) (aB (aE 1) aJ)) [some (I t.i), some (I t.j), some t.val] (N ++ [.dt (bB ts)]) = some (.inr t.key, N ++ [.dt (bB ts)]) := by
   have kk : keysOf [I t.i, I t.j] = some t.key := rfl
   simp! [uW, kk, if_pos l2]
  show dcF _ _ _ _ _ (.d (.tuple (f2 t)) :: (aV ws).map .d) [s1, s2, s3] _ = _
  unfold dcF
  rw [show qA 3 (dE (hName 0) (dE (hName 1) (dE (hName 2) qH))) (.d (.tuple (f2 t))) [s1, s2, s3] (N ++ [.dt (bB ts)]) = some ([some (I t.i), some (I t.j), some t.val], N ++ [.dt (bB ts)]) from rfl, Option.bind_some]
  dsimp only
  rw [show nU [some (I t.i), some (I t.j), some t.val] (N ++ [.dt (bB ts)]) = some (true, N ++ [.dt (bB ts)]) from rfl, Option.bind_some]
  dsimp only
  rw [if_pos rfl, kf, Option.bind_some]
  dsimp only
  rw [show aE 2 [some (I t.i), some (I t.j), some t.val] (N ++ [.dt (bB ts)]) = some (t.val, N ++ [.dt (bB ts)]) from rfl, Option.bind_some]
  dsimp only
  rw [st, Option.bind_some, ih, List.append_assoc]
  rfl
def aDb (w : Nat) (n : Int) (vs : List Tie) : Cell := .obj "Web" [("many", I n), ("ties", .d (.tuple (eB vs))), ("weights", .c (w + 2))]
def OM (w : Nat) (n : Int) (us vs : List Tie) : List Cell := [aDb w n vs, .dt (bB us), .dt (bB (vs.filter big))]
theorem tT {M L : Sto} {fs : List (Str × CD)} : objOf "Web" (M ++ (.obj "Web" fs :: L)) (.c M.length) = some (M.length, fs) := by
 have : (M ++ (Cell.obj "Web" fs :: L))[M.length]? = some (.obj "Web" fs) := by rw [List.getElem?_append_right (Nat.le_refl _), Nat.sub_self]; rfl
 simp only [objOf, this, if_true]
theorem lY {M L : Sto} {c c' : Cell} : (M ++ (c :: L)).set M.length c' = M ++ (c' :: L) := by
 rw [List.set_append_right _ _ (Nat.le_refl _), Nat.sub_self]; rfl
def R3 (k : Bool) (p q w : PyData) : PyData := if k then .list [p, q, w] else .tuple [p, q, w]
theorem dP (k : Bool) (p q w : PyData) : aY (R3 k p q w) = some [p, q, w] := by cases k <;> rfl
theorem rR {x : PyData} (h : cX x 3 = true) : ∃ k p q w, x = R3 k p q w := by
 have aux : ∀ ds : List PyData, ((ds.length : Int) == 3) = true -> ∃ p q w, ds = [p, q, w] := fun ds h => by
  match ds, h with
  | [p, q, w], _ => exact ⟨p, q, w, rfl⟩
  | [], h => exact absurd h (by decide)
  | [_], h => exact absurd h (by simp)
  | [_, _], h => exact absurd h (by simp)
  | _ :: _ :: _ :: _ :: r, h =>
   have : ((r.length + 1 + 1 + 1 + 1 : Nat) : Int) = 3 := by simpa using h
   omega
 cases x with
 | list ds => obtain ⟨p, q, w, rfl⟩ := aux ds h; exact ⟨true, p, q, w, rfl⟩
 | tuple ds => obtain ⟨p, q, w, rfl⟩ := aux ds h; exact ⟨false, p, q, w, rfl⟩
 | _ => cases h
def plc (n : Int) : PyData -> Bool
 | .int i => decide (0 <= i) && decide (i < n)
 | _ => false
theorem nQ (n : Int) (p : PyData) (M : Sto) : fZ [I n, .d p] M = some (B (plc n p), M) := by
 cases hp : dO p with
 | false =>
  have e : plc n p = false := by cases p <;> first | rfl | cases hp
  rw [e]
  simp! [fZ, jR, dM, hp]
 | true =>
  obtain ⟨i, rfl⟩ : ∃ i, p = .int i := by cases p <;> first | exact ⟨_, rfl⟩ | cases hp
  have hc : plc n (.int i) = (decide (0 <= i) && decide (i < n)) := rfl
  rw [hc]
  cases h0 : decide (0 <= i) <;> simp! [fZ, jR, dM, hp, h0, Bool.true_and, Bool.false_and]
def ulk (n : Int) (p q : PyData) : Bool := match p, q with
 | .int i, .int j => plc n p && (plc n q && !(i == j))
 | _, _ => false
theorem rN {n : Int} {p : PyData} (h : plc n p = true) : ∃ i, p = .int i /\ 0 <= i /\ i < n := by
 cases p with
 | int i => simp only [plc, Bool.and_eq_true, decide_eq_true_eq] at h; exact ⟨i, rfl, h.1, h.2⟩
 | _ => cases h
theorem UZ (n : Int) (p q : PyData) (M : Sto) : bW [I n, .d p, .d q] M = some (B (ulk n p q), M) := by
 cases h1 : plc n p with
 | false =>
  have e : ulk n p q = false := by
   unfold ulk
   split
   · rw [h1]; rfl
   · rfl
  rw [e]
  simp! [bW, cG, nQ, h1]
 | true =>
  obtain ⟨i, rfl, _⟩ := rN h1
  cases h2 : plc n q with
  | false =>
   have e : ulk n (.int i) q = false := by
    unfold ulk
    split
    · rw [h2, Bool.false_and, Bool.and_false]
    · rfl
   rw [e]
   simp! [bW, cG, nQ, h1, h2]
  | true =>
   obtain ⟨j, rfl, _⟩ := rN h2
   have e : ulk n (.int i) (.int j) = !(i == j) := by show (plc n (.int i) && (plc n (.int j) && !(i == j))) = _; rw [h1, h2]; rfl
   rw [e]
   simp! [bW, cG, nQ, h1, h2, rA]
def fK (n : Int) (r : PyData) : Option Tie := match aY r with
 | some [.int i, .int j, w] => match aY w with
  | some [.int a, .int b] => if 0 <= i /\ i < j /\ j < n /\ gQ a b = true then some ⟨i, j, a, b⟩ else none
  | _ => none
 | _ => none
theorem vP {w : PyData} (h : dJ w = true) : ∃ a b, aY w = some [.int a, .int b] /\ gQ a b = true := by
 unfold dJ at h
 split at h
 · rename_i a b e; exact ⟨a, b, e, h⟩
 · cases h
theorem EI {n i j a b : Int} {r w : PyData} (hr : aY r = some [.int i, .int j, w]) (hw : aY w = some [.int a, .int b]) (h : 0 <= i /\ i < j /\ j < n /\ gQ a b = true) : fK n r = some ⟨i, j, a, b⟩ := by
 unfold fK
 rw [hr]; dsimp only; rw [hw]; dsimp only; rw [if_pos h]
theorem jO {n : Int} {r : PyData} {t : Tie} (h : fK n r = some t) : ∃ w, aY r = some [.int t.i, .int t.j, w] /\ aY w = some [.int t.a, .int t.b] /\ 0 <= t.i /\ t.i < t.j /\ t.j < n /\ gQ t.a t.b = true := by
 unfold fK at h
 split at h
 · rename_i i j w hr
   split at h
   · rename_i a b hw
     split at h
     · rename_i c
       cases h
       exact ⟨w, hr, hw, c⟩
     · cases h
   · cases h
 · cases h
theorem ix3 (k : Bool) (p q w : PyData) (M : Sto) : ixF (.d (R3 k p q w)) (I 0) M = some (.d p, M) /\ ixF (.d (R3 k p q w)) (I 1) M = some (.d q, M) /\ ixF (.d (R3 k p q w)) (I 2) M = some (.d w, M) := by cases k <;> exact ⟨rfl, rfl, rfl⟩
theorem yQ (n : Int) (r : PyData) (M : Sto) : iE [I n, .d r] M = some (B (fK n r).isSome, M) := by
 cases h3 : cX r 3 with
 | false =>
  have e : fK n r = none := by
   cases h : fK n r with
   | none => rfl
   | some t =>
    obtain ⟨w, hr, _⟩ := jO h
    unfold cX at h3
    rw [hr] at h3
    cases h3
  have bt : bH [I n, .d r] M = some (B false, M) := by
   simp! [bH, cF, fL, h3]
  rw [e]
  simp! [iE, jQ, bt, Option.isSome_none]
 | true =>
  obtain ⟨k, p, q, w, rfl⟩ := rR h3
  obtain ⟨x0, x1, x2⟩ := ix3 k p q w M
  cases hu : ulk n p q with
  | false =>
   have e : fK n (R3 k p q w) = none := by
    cases h : fK n (R3 k p q w) with
    | none => rfl
    | some t =>
     obtain ⟨w', hr, _, i0, ij, jn, _⟩ := jO h
     rw [dP] at hr
     cases hr
     have : ulk n (.int t.i) (.int t.j) = true := by
      have ne : (!(t.i == t.j)) = true := by simp; omega
      show (plc n (.int t.i) && (plc n (.int t.j) && !(t.i == t.j))) = true
      rw [ne]
      simp only [plc, decide_eq_true i0, decide_eq_true jn, decide_eq_true (show t.i < n by omega), decide_eq_true (show (0:Int) <= t.j by omega), Bool.and_true, Bool.true_and]
     rw [this] at hu; cases hu
   have bt : bH [I n, .d (R3 k p q w)] M = some (B false, M) := by
    simp! [bH, cF, fL, h3, x0, x1, UZ, hu]
   rw [e]
   simp! [iE, jQ, bt, Option.isSome_none]
  | true =>
   obtain ⟨i, j, rfl, rfl, i0, jn⟩ : ∃ i j, p = .int i /\ q = .int j /\ 0 <= i /\ j < n := by
    unfold ulk at hu
    split at hu
    · rename_i i j
      rw [Bool.and_eq_true, Bool.and_eq_true] at hu
      obtain ⟨i', e1, q1, _⟩ := rN hu.1
      obtain ⟨j', e2, _, q2⟩ := rN hu.2.1
      cases e1; cases e2
      exact ⟨i, j, rfl, rfl, q1, q2⟩
    · cases hu
   have bt : bH [I n, .d (R3 k (.int i) (.int j) w)] M = some (B (decide (i < j)), M) := by
    simp! [bH, cF, fL, h3, x0, x1, UZ, hu]
   cases ij : decide (i < j) with
   | false =>
    have e : fK n (R3 k (.int i) (.int j) w) = none := by
     cases h : fK n (R3 k (.int i) (.int j) w) with
     | none => rfl
     | some t =>
      obtain ⟨w', hr, _, _, z, _⟩ := jO h
      rw [dP] at hr
      cases hr
      exact absurd z (of_decide_eq_false ij)
    rw [ij] at bt
    rw [e]
    simp! [iE, jQ, bt, Option.isSome_none]
   | true =>
    rw [ij] at bt
    have e : (fK n (R3 k (.int i) (.int j) w)).isSome = dJ w := by
     cases hw : dJ w with
     | true =>
      obtain ⟨a, b, w1, w2⟩ := vP hw
      rw [EI (dP ..) w1 ⟨i0, of_decide_eq_true ij, jn, w2⟩]
      rfl
     | false =>
      cases h : fK n (R3 k (.int i) (.int j) w) with
      | none => rfl
      | some t =>
       obtain ⟨w', hr, h2, _, _, _, h3'⟩ := jO h
       rw [dP] at hr
       cases hr
       unfold dJ at hw
       rw [h2] at hw
       dsimp only at hw
       rw [h3'] at hw; cases hw
    rw [e]
    simp! [iE, jQ, bt, x2, AR]
def lw (lo hi : Int) : PyData -> Bool
 | .int i => decide (lo <= i) && decide (i <= hi)
 | _ => false
theorem yJ (p : PyData) (lo hi : Int) (M : Sto) : cQ [.d p, I lo, I hi] M = some (B (lw lo hi p), M) := by
 cases p with
 | int i =>
  have hc : lw lo hi (.int i) = (decide (lo <= i) && decide (i <= hi)) := rfl
  have w1 : oZ "int" (.int i) = true := rfl
  have w2 : oZ "bool" (.int i) = false := rfl
  rw [hc]
  cases h0 : decide (lo <= i) <;> simp! [cQ, gT, w1, w2, h0, Bool.true_and, Bool.false_and]
 | _ => rfl
theorem xZ {lo hi : Int} {p : PyData} (h : lw lo hi p = true) : ∃ i, p = .int i /\ lo <= i /\ i <= hi := by
 cases p with
 | int i => simp only [lw, Bool.and_eq_true, decide_eq_true_eq] at h; exact ⟨i, rfl, h.1, h.2⟩
 | _ => cases h
theorem xD {r : PyData} {ds : List PyData} (h : aY r = some ds) (M : Sto) : gN [.d r] M = some (I ds.length, M) := by
 cases r <;> first | (cases h; rfl) | cases h
theorem zT {r : PyData} (h : gS r = true) : ∃ ds, aY r = some ds := by
 cases r <;> first | exact ⟨_, rfl⟩ | cases h
theorem qC {r : PyData} {ds : List PyData} (h : oks r = true) (e : aY r = some ds) : ∀ d ∈ ds, oks d = true := by
 have : iD ds = true := by cases r <;> first | (cases e; exact h) | cases e
 clear h e
 induction ds with
 | nil => exact fun d hd => nomatch hd
 | cons x xs ih =>
  unfold iD at this
  rw [Bool.and_eq_true] at this
  intro d hd
  rcases List.mem_cons.mp hd with rfl | hd
  · exact this.1
  · exact ih this.2 d hd
abbrev LG (n : Int) (x : CD) (c k : Nat) (r : PyData) : Ga := [some (I n), some x, some (.c c), some (I (k : Nat)), some (.d r)]
theorem UM {n : Int} {x : CD} {c k : Nat} {r : PyData} {M : Sto} (ho : oks r = true) (ht : fK n r = none) : aU (LG n x c k r) M = some (.rt (I (k : Nat)), M) := by
 cases hr : gS r with
 | false => simp! [aU, bN, hr]
 | true =>
  obtain ⟨ds, hd⟩ := zT hr
  cases h3 : ((ds.length : Int) == 3) with
  | false => simp! [aU, bN, hr, xD hd, rA, h3]
  | true =>
   have h3' : cX r 3 = true := by unfold cX; rw [hd]; exact h3
   obtain ⟨kk, p, q, w, rfl⟩ := rR h3'
   rw [dP] at hd
   cases hd
   obtain ⟨x0, x1, x2⟩ := ix3 kk p q w M
   have ow : oks w = true := qC ho (dP ..) w (by simp)
   have l3 : gN [.d (R3 kk p q w)] M = some (I 3, M) := xD (dP kk p q w) M
   have n3 : ((3 : Int) == 3) = true := rfl
   cases hw : dJ w with
   | false => simp! [aU, bN, hr, l3, rA, n3, x2, dN w M ow, hw]
   | true =>
    cases hp : lw 0 (n - 1) p with
    | false => simp! [aU, bN, hr, l3, rA, n3, x0, x2, dN w M ow, hw, yJ, hp]
    | true =>
     obtain ⟨i, rfl, i0, i1⟩ := xZ hp
     cases hq : lw (i + 1) (n - 1) q with
     | false => simp! [aU, bN, hr, l3, rA, n3, x0, x1, x2, dN w M ow, hw, yJ, hp, jK, hq]
     | true =>
      obtain ⟨j, rfl, j0, j1⟩ := xZ hq
      obtain ⟨a, b, w1, w2⟩ := vP hw
      rw [EI (dP ..) w1 ⟨i0, by omega, by omega, w2⟩] at ht
      cases ht
def prD (p : Int × Int) : PyData := .tuple [.int p.1, .int p.2]
def Tie.ij (t : Tie) : Int × Int := (t.i, t.j)
theorem aAa (p q : Int × Int) : PyData.eqv (prD p) (prD q) = decide (p = q) := by
 obtain ⟨a, b⟩ := p
 obtain ⟨c, d⟩ := q
 show (a == c && (b == d && true)) = _
 rw [Bool.eq_iff_iff]
 simp
theorem ZO (l : List (Int × Int)) (p : Int × Int) : (l.map prD).any (fun d => PyData.eqv d (prD p)) = decide (p ∈ l) := by
 rw [List.any_map, Bool.eq_iff_iff]
 simp only [List.any_eq_true, Function.comp, aAa, decide_eq_true_eq]
 exact ⟨fun ⟨q, h, e⟩ => e ▸ h, fun h => ⟨p, h, rfl⟩⟩
theorem EV {n : Nat} {M : Sto} : ∀ ds : List PyData, pG n M (ds.map .d) = some ds
 | [] => by unfold pG; rfl
 | d :: ds => by
  rw [List.map_cons]
  unfold pG
  rw [NF, Option.bind_some, EV ds]
  rfl
theorem aDa {M : Sto} {c : Nat} {l : List (Int × Int)} {i j : Int} (h : M[c]? = some (.lst ((l.map prD).map .d))) : inC false (.d (.tuple [.int i, .int j])) (.c c) M = some (B (decide ((i, j) ∈ l)), M) := by
 have s1 : snap 5 M (.c c) = some (.list (l.map prD)) := by
  unfold snap
  rw [h]
  dsimp only
  rw [EV, Option.bind_some]
 have s2 : (SeqAt.shaped (.tuple [.int i, .int j]) && (l.map prD).all SeqAt.shaped) = true := by
  rw [Bool.and_eq_true]
  refine ⟨rfl, List.all_eq_true.mpr fun d hd => ?_⟩
  obtain ⟨p, _, rfl⟩ := List.mem_map.mp hd
  rfl
 unfold inC
 rw [NF, Option.bind_some, s1, Option.bind_some]
 show (some (l.map prD)).bind _ = _
 rw [Option.bind_some, if_pos s2, if_neg Bool.false_ne_true]
 rw [show (PyData.tuple [.int i, .int j]) = prD (i, j) from rfl, ZO]
theorem IF {n : Int} {x : CD} {c k : Nat} {r : PyData} {M : Sto} {t : Tie} {l : List (Int × Int)} (ho : oks r = true) (ht : fK n r = some t) (h : M[c]? = some (.lst ((l.map prD).map .d))) (hl : l.length < 1000) :
 aU (LG n x c k r) M = if t.ij ∈ l then some (.rt (I (k : Nat)), M) else some (.nx (LG n x c k r), M.set c (.lst (((l ++ [t.ij]).map prD).map .d))) := by
 obtain ⟨w, hr, hw, i0, ij, jn, hv⟩ := jO ht
 have h3 : cX r 3 = true := by unfold cX; rw [hr]; rfl
 obtain ⟨kk, p, q, w', rfl⟩ := rR h3
 rw [dP] at hr
 cases hr
 obtain ⟨x0, x1, x2⟩ := ix3 kk (.int t.i) (.int t.j) w M
 have rr : gS (R3 kk (.int t.i) (.int t.j) w) = true := by cases kk <;> rfl
 have ow : oks w = true := qC ho (dP ..) w (by simp)
 have l3 : gN [.d (R3 kk (.int t.i) (.int t.j) w)] M = some (I 3, M) := xD (dP kk (.int t.i) (.int t.j) w) M
 have n3 : ((3 : Int) == 3) = true := rfl
 have hw' : dJ w = true := by unfold dJ; rw [hw]; exact hv
 have hp : lw 0 (n - 1) (.int t.i) = true := by
  simp only [lw, decide_eq_true i0, decide_eq_true (show t.i <= n - 1 by omega), Bool.and_true]
 have hq : lw (t.i + 1) (n - 1) (.int t.j) = true := by
  simp only [lw, decide_eq_true (show t.i + 1 <= t.j by omega), decide_eq_true (show t.j <= n - 1 by omega), Bool.and_true]
 have z2 : (2 : Nat) <= sizeLine := sz (by decide)
 have ei := aDa (i := t.i) (j := t.j) h
 by_cases hm : t.ij ∈ l
 · rw [if_pos hm]
   have hm' : decide ((t.i, t.j) ∈ l) = true := decide_eq_true hm
   simp! [aU, bN, rr, l3, rA, n3, x0, x1, x2, dN w M ow, hw', yJ, hp, jK, hq, ei, hm', if_pos z2, Nat.zero_add]
 · rw [if_neg hm]
   have hm' : decide ((t.i, t.j) ∈ l) = false := decide_eq_false hm
   have ap : mQ (.c c) [.d (.tuple [.int t.i, .int t.j])] M = some (.d .none, M.set c (.lst (((l ++ [t.ij]).map prD).map .d))) := by
    have hz : ((l.map prD).map CD.d).length < sizeLine := by rw [List.length_map, List.length_map, sizeLine_eq]; omega
    unfold mQ
    dsimp only
    rw [h]
    dsimp only
    rw [if_pos hz, List.map_append, List.map_append]
    rfl
   have ty : tyB "list" M (.c c) = true := by unfold tyB; dsimp only; rw [h]; rfl
   simp! [aU, bN, rr, l3, rA, n3, x0, x1, x2, dN w M ow, hw', yJ, hp, jK, hq, ei, hm', if_pos z2, Nat.zero_add, EO, ty, ap]
def cE (n : Int) : List PyData -> List (Int × Int) -> Nat -> Option Nat
 | [], _, _ => none
 | r :: l, kn, k => match fK n r with
  | none => some k
  | some t => if t.ij ∈ kn then some k else cE n l (kn ++ [t.ij]) (k + 1)
def cZ (k : Nat) (l : List PyData) : List CD := (l.zipIdx k).map fun p => .d (.tuple [.int (p.2 : Nat), p.1])
theorem vQ (k : Nat) (r : PyData) (l : List PyData) : cZ k (r :: l) = .d (.tuple [.int (k : Nat), r]) :: cZ (k + 1) l := rfl
abbrev G2 : GF := qA 2 (dE (hName 3) (dE (hName 4) qH))
theorem zY {n : Int} {x : CD} {c k : Nat} {r : PyData} {g3 g4 : Option CD} {M : Sto} : G2 (.d (.tuple [.int (k : Nat), r])) [some (I n), some x, some (.c c), g3, g4] M = some (LG n x c k r, M) := rfl
theorem nT {M : Sto} {c : Cell} : (M ++ [c])[M.length]? = some c := by rw [List.getElem?_append_right (Nat.le_refl _), Nat.sub_self]; rfl
theorem zI {n : Int} {x : CD} {M : Sto} : ∀ (l : List PyData) (kn : List (Int × Int)) (k : Nat) (g3 g4 : Option CD), (∀ r ∈ l, oks r = true) -> kn.length + l.length < 1000 ->
 ∃ L, match cE n l kn k with
  | some b => jE G2 aU (cZ k l) [some (I n), some x, some (.c M.length), g3, g4] (M ++ [.lst ((kn.map prD).map .d)]) = some (.rt (I (b : Nat)), M ++ L)
  | none => ∃ γ', jE G2 aU (cZ k l) [some (I n), some x, some (.c M.length), g3, g4] (M ++ [.lst ((kn.map prD).map .d)]) = some (.nx γ', M ++ L)
 | [], kn, k, g3, g4, _, _ => ⟨_, _, rfl⟩
 | r :: l, kn, k, g3, g4, ho, hl => by
  have or := ho r List.mem_cons_self
  rw [vQ]
  unfold cE
  cases ht : fK n r with
  | none =>
   refine ⟨[.lst ((kn.map prD).map .d)], ?_⟩
   dsimp only
   unfold jE
   rw [zY, Option.bind_some]
   dsimp only
   rw [UM or ht, Option.bind_some]
  | some t =>
   have tn := IF (x := x) (k := k) or ht (nT (M := M) (c := .lst ((kn.map prD).map .d))) (by omega)
   dsimp only
   by_cases hm : t.ij ∈ kn
   · rw [if_pos hm] at tn
     rw [if_pos hm]
     refine ⟨[.lst ((kn.map prD).map .d)], ?_⟩
     dsimp only
     unfold jE
     rw [zY, Option.bind_some]
     dsimp only
     rw [tn, Option.bind_some]
   · rw [if_neg hm] at tn
     rw [if_neg hm]
     obtain ⟨L, ih⟩ := zI (n := n) (x := x) (M := M) l (kn ++ [t.ij]) (k + 1) (some (I (k : Nat))) (some (.d r)) (fun r' h => ho r' (List.mem_cons_of_mem _ h)) (by rw [List.length_append]; simp only [List.length_cons, List.length_nil] at hl ⊢; omega)
     have st : (M ++ [Cell.lst ((kn.map prD).map .d)]).set M.length (.lst (((kn ++ [t.ij]).map prD).map .d)) = M ++ [.lst (((kn ++ [t.ij]).map prD).map .d)] := lY
     rw [st] at tn
     have step : ∀ y, jE G2 aU (cZ (k + 1) l) [some (I n), some x, some (.c M.length), some (I (k : Nat)), some (.d r)] (M ++ [.lst (((kn ++ [t.ij]).map prD).map .d)]) = y ->
      jE G2 aU (.d (.tuple [.int (k : Nat), r]) :: cZ (k + 1) l) [some (I n), some x, some (.c M.length), g3, g4] (M ++ [.lst ((kn.map prD).map .d)]) = y := fun y hy => by
      rw [<- hy]
      conv => lhs; unfold jE
      rw [zY, Option.bind_some]
      dsimp only
      rw [tn, Option.bind_some]
     refine ⟨L, ?_⟩
     cases hf : cE n l (kn ++ [t.ij]) (k + 1) with
     | none => rw [hf] at ih; obtain ⟨γ', e⟩ := ih; exact ⟨γ', step _ e⟩
     | some b => rw [hf] at ih; exact step _ ih
theorem BF {n : Int} {d : PyData} {l : List PyData} {M : Sto} (hd : aY d = some l) (ho : ∀ r ∈ l, oks r = true) (hl : l.length < 1000) :
 ∃ L, dA [I n, .d d] M = some (match cE n l [] 0 with | some b => I (b : Nat) | none => .d .none, M ++ L) := by
 obtain ⟨L, e⟩ := zI (n := n) (x := .d d) (M := M) l [] 0 none none ho (by simpa using hl)
 have en : qW (aB (aE 1) aJ) [some (I n), some (.d d), some (.c M.length), none, none] (M ++ [.lst []]) = some (cZ 0 l, M ++ [.lst []]) := by
  simp! [qW, hd]
  rfl
 have z0 : (0 : Nat) <= sizeLine := Nat.zero_le _
 have m0 : (M ++ [Cell.lst []]) = M ++ [.lst ((([] : List (Int × Int)).map prD).map .d)] := rfl
 refine ⟨L, ?_⟩
 cases hf : cE n l [] 0 with
 | none =>
  rw [hf] at e
  obtain ⟨γ', e⟩ := e
  rw [<- m0] at e
  simp! [dA, eS, AS, if_pos z0, pB, en, e]
 | some b =>
  rw [hf] at e
  dsimp only at e
  rw [<- m0] at e
  simp! [dA, eS, AS, if_pos z0, pB, en, e]
theorem key_ij {s t : Tie} : s.key = t.key ↔ s.ij = t.ij := by
 unfold Tie.key Tie.ij
 constructor
 · intro h
   have h1 : (Sum.inl s.i : Key) = .inl t.i := (List.cons.inj h).1
   have h2 : (Sum.inl s.j : Key) = .inl t.j := (List.cons.inj (List.cons.inj h).2).1
   rw [Sum.inl.inj h1, Sum.inl.inj h2]
 · intro h
   rw [(Prod.mk.inj h).1, (Prod.mk.inj h).2]
theorem mem_ij {ts : List Tie} {t : Tie} : t.ij ∈ ts.map Tie.ij ↔ ∃ s ∈ ts, s.key = t.key := by
 rw [List.mem_map]
 exact ⟨fun ⟨s, h, e⟩ => ⟨s, h, key_ij.mpr e⟩, fun ⟨s, h, e⟩ => ⟨s, h, key_ij.mp e⟩⟩
theorem EB {t : Tie} : ∀ {ts : List Tie}, (∃ s ∈ ts, s.key = t.key) -> (lkC (bB ts) t.key).isSome = true
 | [], h => by obtain ⟨s, hs, _⟩ := h; cases hs
 | s :: ts, h => by
  unfold lkC bB
  rw [List.map_cons, List.find?_cons]
  by_cases e : s.key = t.key
  · rw [decide_eq_true e]; rfl
  · rw [decide_eq_false e]
    obtain ⟨u, hu, eu⟩ := h
    rcases List.mem_cons.mp hu with rfl | hu
    · exact absurd eu e
    · exact EB ⟨u, hu, eu⟩
theorem vT {γ : Ga} {M : Sto} {k : CD} {fa : AF} (hf : fa γ M = some ([k], M)) : mP "NoTie" cY fa γ M = some (.xc γ ⟨"NoTie", [("at", k)]⟩, M ++ [.dead]) := by
 have z1 : (1 : Nat) <= sizeLine := sz (by decide)
 have e0 : (M ++ [Cell.exc true "NoTie" []])[M.length]? = some (.exc true "NoTie" []) := nT
 have x0 : excOf (M ++ [Cell.exc true "NoTie" []]) (.c M.length) = some (M.length, true, (("NoTie" : Str), ([] : List (Str × CD)))) := by unfold excOf; dsimp only; rw [e0]
 have s0 : (M ++ [Cell.exc true "NoTie" []]).set M.length (.exc true "NoTie" [("at", k)]) = M ++ [.exc true "NoTie" [("at", k)]] := lY
 have i1 : cY [.c M.length, k] (M ++ [.exc true "NoTie" []]) = some (.d .none, M ++ [.exc true "NoTie" [("at", k)]]) := by
  simp! [cY, jD, yC, x0, List.isEmpty_nil, true_and, and_self, if_true, s0]
 have e1 : (M ++ [Cell.exc true "NoTie" [("at", k)]])[M.length]? = some (.exc true "NoTie" [("at", k)]) := nT
 have x1 : excOf (M ++ [Cell.exc true "NoTie" [("at", k)]]) (.c M.length) = some (M.length, true, (("NoTie" : Str), ([("at", k)] : List (Str × CD)))) := by unfold excOf; dsimp only; rw [e1]
 have s1 : (M ++ [Cell.exc true "NoTie" [("at", k)]]).set M.length .dead = M ++ [.dead] := lY
 have mk : wV "NoTie" cY fa γ M = some (.c M.length, M ++ [.exc true "NoTie" [("at", k)]]) := by
  unfold wV
  rw [hf, Option.bind_some]
  dsimp only
  rw [if_pos (show ([k] : List CD).length <= sizeLine from z1), i1, Option.bind_some]
  rfl
 unfold mP
 rw [mk, Option.bind_some]
 dsimp only
 rw [x1, Option.bind_some]
 dsimp only
 rw [if_pos ⟨rfl, rfl⟩, s1]
theorem aCZ {w : PyData} {a b : Int} (h : aY w = some [.int a, .int b]) (M : Sto) : fW [.d w] M = some (.d (.tuple [.int a, .int b]), M) := by
 cases w <;> first | (cases h; rfl) | cases h
theorem FY {n : Int} {x : CD} {M : Sto} {k : Nat} {r : PyData} {ts : List Tie} (hl : ts.length < 1000) :
 bO (LG n x M.length k r) (M ++ [.dt (bB ts)]) = match fK n r with
  | none => some (.xc (LG n x M.length k r) ⟨"NoTie", [("at", I (k : Nat))]⟩, M ++ [.dt (bB ts)] ++ [.dead])
  | some t => if t.ij ∈ ts.map Tie.ij then some (.xc (LG n x M.length k r) ⟨"NoTie", [("at", I (k : Nat))]⟩, M ++ [.dt (bB ts)] ++ [.dead]) else some (.o (.nx (LG n x M.length k r)), M ++ [.dt (bB (ts ++ [t]))]) := by
 have rs := vT (γ := LG n x M.length k r) (M := M ++ [.dt (bB ts)]) (k := I (k : Nat)) (fa := aB (aE 3) aJ) rfl
 cases ht : fK n r with
 | none =>
  have ti := yQ n r (M ++ [.dt (bB ts)])
  rw [ht, Option.isSome_none] at ti
  simp! [bO, ti, rs]
 | some t =>
  have ti := yQ n r (M ++ [.dt (bB ts)])
  rw [ht, Option.isSome_some] at ti
  obtain ⟨w, hr, hw, i0, ij, jn, hv⟩ := jO ht
  have h3 : cX r 3 = true := by unfold cX; rw [hr]; rfl
  obtain ⟨kk, p, q, w', rfl⟩ := rR h3
  rw [dP] at hr
  cases hr
  obtain ⟨x0, x1, x2⟩ := ix3 kk (.int t.i) (.int t.j) w (M ++ [.dt (bB ts)])
  have tu := aCZ hw (M ++ [.dt (bB ts)])
  have hD : (M ++ [Cell.dt (bB ts)])[M.length]? = some (.dt (bB ts)) := nT
  have kk' : keysOf [I t.i, I t.j] = some t.key := rfl
  have l2 : (Tie.key t).length <= sizeLine := sz (show 2 <= 1000 by decide)
  dsimp only
  by_cases hm : t.ij ∈ ts.map Tie.ij
  · rw [if_pos hm]
    obtain ⟨v, hv'⟩ := Option.isSome_iff_exists.mp (EB (mem_ij.mp hm))
    have at_ : atD (M ++ [.dt (bB ts)]) (.c M.length) (.inr t.key) = some (some v) := by simp only [atD, hD, hv']
    simp! [bO, ti, LY, uW, x0, x1, kk', if_pos l2, at_, Option.isSome_some, rs]
  · rw [if_neg hm]
    have nk : ∀ s ∈ ts, s.key ≠ t.key := fun s hs e => hm (mem_ij.mpr ⟨s, hs, e⟩)
    have at_ : atD (M ++ [.dt (bB ts)]) (.c M.length) (.inr t.key) = some none := by simp only [atD, hD, SV nk]
    have len : (bB ts).length < sizeLine := by unfold bB; rw [List.length_map, sizeLine_eq]; omega
    have st : AY (M ++ [.dt (bB ts)]) (.c M.length) (.inr t.key) (.d (.tuple [.int t.a, .int t.b])) = some (M ++ [.dt (bB (ts ++ [t]))]) := by
     have pn : putD (bB ts) t.key (.d (.tuple [.int t.a, .int t.b])) = bB (ts ++ [t]) := ED nk
     simp only [AY, hD, if_pos len, pn]
     rw [lY]
    simp! [bO, ti, LY, uW, x0, x1, x2, kk', if_pos l2, at_, xA, tu, st, Option.isSome_none]
theorem pK {n : Int} {x : CD} {M : Sto} : ∀ (l : List PyData) (ts : List Tie) (k : Nat) (g3 g4 : Option CD), ts.length + l.length < 1000 -> (ts.map Tie.key).Nodup ->
 match cE n l (ts.map Tie.ij) k with
  | some b => ∃ γ' L, qB G2 bO (cZ k l) [some (I n), some x, some (.c M.length), g3, g4] (M ++ [.dt (bB ts)]) = some (.xc γ' ⟨"NoTie", [("at", I (b : Nat))]⟩, M ++ L)
  | none => ∃ us g3' g4', (us.map Tie.key).Nodup /\ us.length = ts.length + l.length /\ qB G2 bO (cZ k l) [some (I n), some x, some (.c M.length), g3, g4] (M ++ [.dt (bB ts)]) = some (.o (.nx [some (I n), some x, some (.c M.length), g3', g4']), M ++ [.dt (bB us)])
 | [], ts, k, g3, g4, _, nd => ⟨ts, g3, g4, nd, rfl, rfl⟩
 | r :: l, ts, k, g3, g4, hl, nd => by
  rw [vQ]
  unfold cE
  have tn := FY (n := n) (x := x) (M := M) (k := k) (r := r) (ts := ts) (by omega)
  have go : ∀ γ e L, bO (LG n x M.length k r) (M ++ [.dt (bB ts)]) = some (.xc γ e, L) -> qB G2 bO (.d (.tuple [.int (k : Nat), r]) :: cZ (k + 1) l) [some (I n), some x, some (.c M.length), g3, g4] (M ++ [.dt (bB ts)]) = some (.xc γ e, L) := fun γ e L h => by
   unfold qB
   rw [zY, Option.bind_some]
   dsimp only
   rw [h, Option.bind_some]
  cases ht : fK n r with
  | none =>
   rw [ht] at tn
   dsimp only at tn ⊢
   rw [List.append_assoc] at tn
   exact ⟨_, _, go _ _ _ tn⟩
  | some t =>
   rw [ht] at tn
   dsimp only at tn ⊢
   by_cases hm : t.ij ∈ ts.map Tie.ij
   · rw [if_pos hm] at tn ⊢
     rw [List.append_assoc] at tn
     exact ⟨_, _, go _ _ _ tn⟩
   · rw [if_neg hm] at tn ⊢
     have nd' : ((ts ++ [t]).map Tie.key).Nodup := by
      rw [List.map_append, List.nodup_append]
      refine ⟨nd, by simp, fun a ha b hb => ?_⟩
      obtain ⟨s, hs, rfl⟩ := List.mem_map.mp ha
      rw [List.map_singleton, List.mem_singleton] at hb
      rw [hb]
      exact fun e => hm (mem_ij.mpr ⟨s, hs, e⟩)
     have ih := pK (n := n) (x := x) (M := M) l (ts ++ [t]) (k + 1) (some (I (k : Nat))) (some (.d r)) (by rw [List.length_append]; simp only [List.length_cons, List.length_nil] at hl ⊢; omega) nd'
     rw [List.map_append, List.map_singleton] at ih
     have step : ∀ y, qB G2 bO (cZ (k + 1) l) [some (I n), some x, some (.c M.length), some (I (k : Nat)), some (.d r)] (M ++ [.dt (bB (ts ++ [t]))]) = y ->
      qB G2 bO (.d (.tuple [.int (k : Nat), r]) :: cZ (k + 1) l) [some (I n), some x, some (.c M.length), g3, g4] (M ++ [.dt (bB ts)]) = y := fun y hy => by
      rw [<- hy]
      conv => lhs; unfold qB
      rw [zY, Option.bind_some]
      dsimp only
      rw [tn, Option.bind_some]
     cases hf : cE n l (ts.map Tie.ij ++ [t.ij]) (k + 1) with
     | none =>
      rw [hf] at ih
      obtain ⟨us, a, b, h1, h2, h3⟩ := ih
      exact ⟨us, a, b, h1, by rw [h2, List.length_append]; simp only [List.length_cons, List.length_nil]; omega, step _ h3⟩
     | some b =>
      rw [hf] at ih
      obtain ⟨γ', L, h⟩ := ih
      exact ⟨γ', L, step _ h⟩
abbrev zG (k : CD) : Rs := .x ⟨"NoTie", [("at", k)]⟩
abbrev aCB : Rs := .x ⟨"NoPlace", []⟩
theorem HS {n : Int} {d : PyData} {M : Sto} (hd : aY d = none) : cJ [I n, .d d] M = some (zG (I 0), M ++ [.dead]) := by
 have rw1 : gS d = false := by cases d <;> first | rfl | cases hd
 have rs := vT (γ := [some (I n), some (.d d), none, none, none]) (M := M) (k := I 0) (fa := aB (fC (.int 0)) aJ) rfl
 simp! [cJ, gK, tE, rw1, rs]
theorem DQ {n : Int} {d : PyData} {l : List PyData} {c : CD} {M : Sto} (hd : aY d = some l) : qW (aB (aE 1) aJ) [some (I n), some (.d d), some c, none, none] M = some (cZ 0 l, M) := by
 simp! [qW, hd]
 rfl
theorem LD {n : Int} {d : PyData} {l : List PyData} {b : Nat} {M : Sto} (hd : aY d = some l) (hl : l.length < 64) (hb : cE n l [] 0 = some b) : ∃ L, cJ [I n, .d d] M = some (zG (I (b : Nat)), M ++ L) := by
 have rw1 : gS d = true := by cases d <;> first | rfl | cases hd
 have lp := pK (n := n) (x := .d d) (M := M) l [] 0 none none (by simp only [List.length_nil]; omega) (by simp)
 rw [List.map_nil, hb] at lp
 obtain ⟨γ', L, lp⟩ := lp
 have m0 : (M ++ [Cell.dt []]) = M ++ [.dt (bB [])] := rfl
 refine ⟨L, ?_⟩
 simp! [cJ, gK, tE, rw1, sI, m0, zJ, DQ hd, lp]
theorem SM {n : Int} {d : PyData} {l : List PyData} {M : Sto} (hd : aY d = some l) (hl : l.length < 64) (hb : cE n l [] 0 = none) :
 ∃ us vs : List Tie, (us.map Tie.key).Nodup /\ us.length < 64 /\ vs.Perm us /\ cJ [I n, .d d] M = some (.v (.d (.tuple (eB vs))), M ++ [.dt (bB us)]) := by
 have rw1 : gS d = true := by cases d <;> first | rfl | cases hd
 have lp := pK (n := n) (x := .d d) (M := M) l [] 0 none none (by simp only [List.length_nil]; omega) (by simp)
 rw [List.map_nil, hb] at lp
 obtain ⟨us, g3, g4, nd, lu, lp⟩ := lp
 have h64 : us.length < 64 := by rw [lu, List.length_nil]; omega
 obtain ⟨vs, pm, sr⟩ := RM h64
 refine ⟨us, vs, nd, h64, pm, ?_⟩
 have m0 : (M ++ [Cell.dt []]) = M ++ [.dt (bB [])] := rfl
 have hD : (M ++ [Cell.dt (bB us)])[M.length]? = some (.dt (bB us)) := nT
 have lv : vs.length < 64 := by rw [pm.length_eq]; exact h64
 have it : fG (pZ (aE 2)) [some (I n), some (.d d), some (.c M.length), g3, g4] (M ++ [.dt (bB us)]) = some (vs.map fun t => .d (.tuple (f1 t)), M ++ [.dt (bB us)]) := by
  have s1 : pZ (aE 2) [some (I n), some (.d d), some (.c M.length), g3, g4] (M ++ [.dt (bB us)]) = some (.d (.list (vs.map fun t => .tuple (f1 t))), M ++ [.dt (bB us)]) := by
   simp! [pZ, hD, zQ, QO, sr]
  unfold fG
  rw [s1, Option.bind_some]
  show (some (vs.map fun t => PyData.tuple (f1 t))).bind _ = _
  rw [Option.bind_some, List.map_map]
  rfl
 have cp : iY [some (I n), some (.d d), some (.c M.length), g3, g4] (M ++ [.dt (bB us)]) = some (.d (.list (eB vs)), M ++ [.dt (bB us)]) := by
  unfold iY
  exact XJ it (sz (by rw [List.length_map]; omega)) (vD vs none none none) (NL (by omega))
 have tf : fW [.d (.list (eB vs))] (M ++ [.dt (bB us)]) = some (.d (.tuple (eB vs)), M ++ [.dt (bB us)]) := rfl
 simp! [cJ, gK, tE, rw1, sI, m0, zJ, DQ hd, lp, cp, tf]
theorem CH {m d : PyData} {M : Sto} {x : CD} (hm : lw 1 40 m = false) : bE [x, .d m, .d d] M = some (aCB, M) := by
 cases hw : dO m with
 | false => simp! [bE, eK, dM, hw]
 | true =>
  obtain ⟨n, rfl⟩ : ∃ n, m = .int n := by cases m <;> first | exact ⟨_, rfl⟩ | cases hw
  cases c1 : decide (n < 1) with
  | true => simp! [bE, eK, dM, hw, c1]
  | false =>
   have h1 := of_decide_eq_false c1
   have c2 : decide (n > 40) = true := by
    simp only [lw] at hm
    rw [decide_eq_true (show (1:Int) <= n by omega), Bool.true_and] at hm
    have := of_decide_eq_false hm
    exact decide_eq_true (by omega)
   simp! [bE, eK, dM, hw, c1, c2]
theorem zS {n : Int} {d : PyData} {k : CD} {M : Sto} (n1 : 1 <= n) (n40 : n <= 40) (hk : ∀ N : Sto, ∃ L, cJ [I n, .d d] N = some (zG k, N ++ L)) : ∃ L, bE [.c M.length, I n, .d d] (M ++ [.obj "Web" []]) = some (zG k, M ++ L) := by
 have w1 : eN [I n] (M ++ [.obj "Web" []]) = some (B true, M ++ [.obj "Web" []]) := dM _ _
 have c1 : decide (n < 1) = false := decide_eq_false (by omega)
 have c2 : decide (n > 40) = false := decide_eq_false (by omega)
 have o1 : objOf "Web" (M ++ [.obj "Web" []]) (.c M.length) = some (M.length, []) := tT
 have s1 : (M ++ [Cell.obj "Web" []]).set M.length (.obj "Web" (oW "many" (I n) [])) = M ++ [.obj "Web" [("many", I n)]] := lY
 obtain ⟨L, k1⟩ := hk (M ++ [.obj "Web" [("many", I n)]])
 rw [List.append_assoc] at k1
 refine ⟨[.obj "Web" [("many", I n)]] ++ L, ?_⟩
 generalize ([Cell.obj "Web" [("many", I n)]] ++ L) = L' at k1 ⊢
 simp! [bE, eK, w1, c1, c2, wK, yW, o1, s1, k1, if_true, show (0:Nat) < 1000 from by decide]
theorem QX {n : Int} {d : PyData} {l : List PyData} {M : Sto} (hd : aY d = some l) (hl : l.length < 64) (hb : cE n l [] 0 = none) (n1 : 1 <= n) (n40 : n <= 40) :
 ∃ us vs : List Tie, bE [.c M.length, I n, .d d] (M ++ [.obj "Web" []]) = some (.v (.d .none), M ++ OM M.length n us vs) := by
 obtain ⟨us, vs, nd, h64, pm, k1⟩ := SM (M := M ++ [.obj "Web" [("many", I n)]]) hd hl hb
 refine ⟨us, vs, ?_⟩
 have w1 : eN [I n] (M ++ [.obj "Web" []]) = some (B true, M ++ [.obj "Web" []]) := dM _ _
 have c1 : decide (n < 1) = false := decide_eq_false (by omega)
 have c2 : decide (n > 40) = false := decide_eq_false (by omega)
 have o1 : objOf "Web" (M ++ [.obj "Web" []]) (.c M.length) = some (M.length, []) := tT
 have s1 : (M ++ [Cell.obj "Web" []]).set M.length (.obj "Web" (oW "many" (I n) [])) = M ++ [.obj "Web" [("many", I n)]] := lY
 have k1 : cJ [I n, .d d] (M ++ [.obj "Web" [("many", I n)]]) = some (.v (.d (.tuple (eB vs))), M ++ [.obj "Web" [("many", I n)], .dt (bB us)]) := by
  rw [k1, List.append_assoc]; rfl
 have o2 : objOf "Web" (M ++ [.obj "Web" [("many", I n)], .dt (bB us)]) (.c M.length) = some (M.length, ([("many", I n)] : List (Str × CD))) := tT
 have p2 : oW "ties" (.d (.tuple (eB vs))) ([("many", I n)] : List (Str × CD)) = ([("many", I n), ("ties", .d (.tuple (eB vs)))] : List (Str × CD)) := rfl
 have s2 : (M ++ [Cell.obj "Web" [("many", I n)], .dt (bB us)]).set M.length (.obj "Web" [("many", I n), ("ties", .d (.tuple (eB vs)))]) = M ++ [.obj "Web" [("many", I n), ("ties", .d (.tuple (eB vs)))], .dt (bB us)] := lY
 have o3 : ∀ L, objOf "Web" (M ++ (.obj "Web" [("many", I n), ("ties", .d (.tuple (eB vs)))] :: L)) (.c M.length) = some (M.length, ([("many", I n), ("ties", .d (.tuple (eB vs)))] : List (Str × CD))) := fun L => tT
 have lk : List.lookup ("ties" : Str) [("many", I n), ("ties", .d (.tuple (eB vs)))] = some (.d (.tuple (eB vs))) := rfl
 have it : fG (HF "Web" "ties" (aE 0)) [some (.c M.length), some (I n), some (.d d)] (M ++ [.obj "Web" [("many", I n), ("ties", .d (.tuple (eB vs)))], .dt (bB us)]) = some ((aV (vs.filter big)).map .d, M ++ [.obj "Web" [("many", I n), ("ties", .d (.tuple (eB vs)))], .dt (bB us)]) := by
  have : HF "Web" "ties" (aE 0) [some (.c M.length), some (I n), some (.d d)] (M ++ [.obj "Web" [("many", I n), ("ties", .d (.tuple (eB vs)))], .dt (bB us)]) = some (.d (.tuple (eB vs)), M ++ [.obj "Web" [("many", I n), ("ties", .d (.tuple (eB vs)))], .dt (bB us)]) := by
   simp! [HF, o3, lk]
  unfold fG
  rw [this]
  rfl
 have fl : (vs.filter big).length <= vs.length := List.length_filter_le ..
 have lv : vs.length < 64 := by rw [pm.length_eq]; exact h64
 have nv : (vs.map Tie.key).Nodup := (pm.map Tie.key).nodup_iff.mpr nd
 have ln : (M ++ [Cell.obj "Web" [("many", I n), ("ties", .d (.tuple (eB vs)))], .dt (bB us)]).length = M.length + 2 := by rw [List.length_append]; rfl
 have wc := BB (N := M ++ [.obj "Web" [("many", I n), ("ties", .d (.tuple (eB vs)))], .dt (bB us)]) (vs.filter big) [] none none none (by rw [List.nil_append]; exact CW nv) (by simp only [List.length_nil]; omega)
 rw [List.nil_append] at wc
 have dc : jF [some (.c M.length), some (I n), some (.d d)] (M ++ [.obj "Web" [("many", I n), ("ties", .d (.tuple (eB vs)))], .dt (bB us)]) = some (.c (M.length + 2), M ++ [.obj "Web" [("many", I n), ("ties", .d (.tuple (eB vs)))], .dt (bB us), .dt (bB (vs.filter big))]) := by
  unfold jF fDc
  rw [it, Option.bind_some]
  dsimp only
  rw [show yP [none, none, none] [some (CD.c M.length), some (I n), some (.d d)] = [none, none, none] from rfl, show (M ++ [Cell.obj "Web" [("many", I n), ("ties", CD.d (.tuple (eB vs)))], .dt (bB us)] ++ [Cell.dt []]) = M ++ [Cell.obj "Web" [("many", I n), ("ties", CD.d (.tuple (eB vs)))], .dt (bB us)] ++ [Cell.dt (bB [])] from rfl, wc, Option.bind_some, ln, List.append_assoc]
  rfl
 have p3 : oW "weights" (.c (M.length + 2)) ([("many", I n), ("ties", .d (.tuple (eB vs)))] : List (Str × CD)) = ([("many", I n), ("ties", .d (.tuple (eB vs))), ("weights", .c (M.length + 2))] : List (Str × CD)) := rfl
 have s3 : (M ++ [Cell.obj "Web" [("many", I n), ("ties", .d (.tuple (eB vs)))], .dt (bB us), .dt (bB (vs.filter big))]).set M.length (.obj "Web" [("many", I n), ("ties", .d (.tuple (eB vs))), ("weights", .c (M.length + 2))]) = M ++ OM M.length n us vs := lY
 have q0 : ([] : List (Str × CD)).length < 1000 := by decide
 have q1 : ([("many", I n)] : List (Str × CD)).length < 1000 := by show 1 < 1000; decide
 have q2 : ([("many", I n), ("ties", .d (.tuple (eB vs)))] : List (Str × CD)).length < 1000 := by show 2 < 1000; decide
 simp! [bE, eK, w1, c1, c2, wK, yW, o1, s1, k1, o2, p2, s2, dc, o3, p3, s3, if_true, if_pos q0, if_pos q1, if_pos q2, show (0:Nat) < 1000 from by decide, show (0 + 1:Nat) < 1000 from by decide, show (1:Nat) < 1000 from by decide, show (2:Nat) < 1000 from by decide, show (0 + 1 + 1:Nat) < 1000 from by decide]
def ans (s : Str) (k : Int) : PyData := .tuple [.str s, .int k, .bool true]
def oF (m d : PyData) : PyData := match m with
 | .int n => if 1 <= n /\ n <= 40 then (match aY d with
  | none => ans "tie" 0
  | some l => match cE n l [] 0 with
   | some b => ans "tie" (b : Nat)
   | none => ans "web" n) else ans "place" 0
 | _ => ans "place" 0
theorem EK {m d : PyData} (h : lw 1 40 m = false) : oF m d = ans "place" 0 := by
 cases m with
 | int n =>
  unfold oF
  dsimp only
  rw [if_neg]
  rintro ⟨h1, h2⟩
  simp only [lw, decide_eq_true h1, decide_eq_true h2, Bool.and_true] at h
  cases h
 | _ => rfl
theorem IA {n : Int} {d : PyData} (h1 : 1 <= n) (h2 : n <= 40) : oF (.int n) d = match aY d with
 | none => ans "tie" 0
 | some l => match cE n l [] 0 with
  | some b => ans "tie" (b : Nat)
  | none => ans "web" n := by
 unfold oF
 dsimp only
 rw [if_pos ⟨h1, h2⟩]
def yL (d : PyData) : Prop := ∀ l, aY d = some l -> l.length < 64 /\ ∀ r ∈ l, oks r = true
theorem yB {m d : PyData} {M : Sto} (h : yL d) : ∃ L, cH [.d m, .d d] M = some (.d (oF m d), M ++ L) := by
 cases hm : lw 1 40 m with
 | false =>
  refine ⟨[], ?_⟩
  rw [EK hm, List.append_nil]
  simp! [cH, fJ, yJ, hm, uN]
  rfl
 | true =>
  obtain ⟨n, rfl, n1, n40⟩ := xZ hm
  rw [IA n1 n40]
  cases hr : gS d with
  | false =>
   have hd : aY d = none := by cases d <;> first | rfl | cases hr
   refine ⟨[], ?_⟩
   rw [hd, List.append_nil]
   simp! [cH, fJ, yJ, hm, bN, hr, tM]
   rfl
  | true =>
   obtain ⟨l, hd⟩ := zT hr
   obtain ⟨hl, ho⟩ := h l hd
   obtain ⟨L, fb⟩ := BF (n := n) (d := d) (M := M) hd ho (by omega)
   refine ⟨L, ?_⟩
   rw [hd]
   dsimp only
   have z3 : (3 : Nat) <= sizeLine := sz (by decide)
   have n1 : ∀ b : Nat, HA true (I (b : Nat)) (.d .none) (M ++ L) = some (B true, M ++ L) := fun _ => rfl
   have n2 : HA true (.d .none) (.d .none) (M ++ L) = some (B false, M ++ L) := rfl
   cases hf : cE n l [] 0 with
   | none =>
    rw [hf] at fb
    dsimp only at fb
    simp! [cH, fJ, yJ, hm, bN, hr, fb, n2, if_pos z3, Nat.zero_add, ans]
   | some b =>
    rw [hf] at fb
    dsimp only at fb
    simp! [cH, fJ, yJ, hm, bN, hr, fb, n1, if_pos z3, Nat.zero_add, ans]
theorem alone {M : Sto} {i : Nat} {fr : Bool} {nm : Str} {fs : List (Str × CD)} (h : M[i]? = some (.exc fr nm fs)) (hn : nm = "NoTie" \/ nm = "NoPlace") : eT [.c i] M = some (B true, M) := by
 have c1 : TB_CutError.lookup nm = some true := by rcases hn with rfl | rfl <;> decide
 have c2 : TB_ValueError.lookup nm = some true := by rcases hn with rfl | rfl <;> decide
 have c3 : TB_NoLine.lookup nm = some false := by rcases hn with rfl | rfl <;> decide
 have c4 : TB_NoWeight.lookup nm = some false := by rcases hn with rfl | rfl <;> decide
 have c5 : TB_TooMany.lookup nm = some false := by rcases hn with rfl | rfl <;> decide
 simp! [eT, gY, h, c1, c2, c3, c4, c5]
abbrev FG (m d : PyData) (x : Option CD) (y : Option CD) : Ga := [some (.d m), some (.d d), x, y]
theorem FB {m d : PyData} {M : Sto} : aB (aE 0) (aB (aE 1) aJ) (FG m d (some (.d .none)) none) M = some ([.d m, .d d], M) := rfl
theorem LV {m d : PyData} {M N : Sto} {e : Exc} (h : bE [.c M.length, .d m, .d d] (M ++ [.obj "Web" []]) = some (.x e, N)) :
 sL "Web" bE (aB (aE 0) (aB (aE 1) aJ)) (FG m d (some (.d .none)) none) M = some (.x e, N) := by
 unfold sL
 rw [FB, Option.bind_some]
 dsimp only
 rw [h, Option.bind_some]
theorem aAG {m d : PyData} {M N : Sto} (h : bE [.c M.length, .d m, .d d] (M ++ [.obj "Web" []]) = some (.v (.d .none), N)) :
 sL "Web" bE (aB (aE 0) (aB (aE 1) aJ)) (FG m d (some (.d .none)) none) M = some (.v (.c M.length), N) := by
 unfold sL
 rw [FB, Option.bind_some]
 dsimp only
 rw [h, Option.bind_some]
 rfl
theorem vK {m d : PyData} {M L : Sto} {b : Int} (h : bE [.c M.length, .d m, .d d] (M ++ [.obj "Web" []]) = some (zG (I b), M ++ L)) : ∃ L', bP [.d m, .d d] M = some (.d (ans "tie" b), M ++ L') := by
 have mk := LV h
 have ex : (M ++ L ++ [Cell.exc false "NoTie" [("at", I b)]])[(M ++ L).length]? = some (.exc false "NoTie" [("at", I b)]) := nT
 have al := alone ex (.inl rfl)
 have t1 : ([("NoTie", false), ("NoPlace", true)] : List (Str × Bool)).lookup ("NoTie" : Str) = some false := by decide
 have t2 : ([("NoTie", true), ("NoPlace", false)] : List (Str × Bool)).lookup ("NoTie" : Str) = some true := by decide
 have t3 : TB_NoPlace.lookup ("NoTie" : Str) = some false := by decide
 have xo : excOf (M ++ L ++ [Cell.exc false "NoTie" [("at", I b)]]) (.c (M ++ L).length) = some ((M ++ L).length, false, (("NoTie" : Str), ([("at", I b)] : List (Str × CD)))) := by unfold excOf; dsimp only; rw [ex]
 have lk : List.lookup ("at" : Str) [("at", I b)] = some (I b) := rfl
 have mem : ("NoTie" : Str) ∈ (["NoTie"] : List Str) := List.mem_singleton.mpr rfl
 have z3 : (3 : Nat) <= sizeLine := sz (by decide)
 refine ⟨L ++ [.exc false "NoTie" [("at", I b)]], ?_⟩
 rw [<- List.append_assoc]
 simp! [bP, fM, fO, lE, HV, sO, FZ, mk, t1, t2, EG, xo, if_pos mem, lk, al, ex, t3, if_pos z3, Nat.zero_add, ans]
theorem yX {m d : PyData} {M L : Sto} (h : bE [.c M.length, .d m, .d d] (M ++ [.obj "Web" []]) = some (aCB, M ++ L)) : ∃ L', bP [.d m, .d d] M = some (.d (ans "place" 0), M ++ L') := by
 have mk := LV h
 have ex : (M ++ L ++ [Cell.exc false "NoPlace" []])[(M ++ L).length]? = some (.exc false "NoPlace" []) := nT
 have al := alone ex (.inr rfl)
 have t1 : ([("NoTie", false), ("NoPlace", true)] : List (Str × Bool)).lookup ("NoPlace" : Str) = some true := by decide
 have t3 : TB_NoTie.lookup ("NoPlace" : Str) = some false := by decide
 have z3 : (3 : Nat) <= sizeLine := sz (by decide)
 refine ⟨L ++ [.exc false "NoPlace" []], ?_⟩
 rw [<- List.append_assoc]
 simp! [bP, fM, fO, kY, HV, sO, FZ, mk, t1, al, ex, t3, if_pos z3, Nat.zero_add, ans]
theorem HE {n : Int} {d : PyData} {M : Sto} {us vs : List Tie} (h : bE [.c M.length, I n, .d d] (M ++ [.obj "Web" []]) = some (.v (.d .none), M ++ OM M.length n us vs)) : ∃ L', bP [I n, .d d] M = some (.d (ans "web" n), M ++ L') := by
 have mk := aAG h
 have ob : objOf "Web" (M ++ OM M.length n us vs) (.c M.length) = some (M.length, ([("many", I n), ("ties", .d (.tuple (eB vs))), ("weights", .c (M.length + 2))] : List (Str × CD))) := tT
 have lk : List.lookup ("many" : Str) [("many", I n), ("ties", .d (.tuple (eB vs))), ("weights", .c (M.length + 2))] = some (I n) := rfl
 have z3 : (3 : Nat) <= sizeLine := sz (by decide)
 refine ⟨OM M.length n us vs, ?_⟩
 simp! [bP, fM, fO, HV, sO, FZ, mk, ob, lk, if_pos z3, Nat.zero_add, ans]
theorem rZ {m d : PyData} {M : Sto} (h : yL d) : ∃ L, bP [.d m, .d d] M = some (.d (oF m d), M ++ L) := by
 cases hm : lw 1 40 m with
 | false => rw [EK hm]; exact yX (CH hm)
 | true =>
  obtain ⟨n, rfl, n1, n40⟩ := xZ hm
  rw [IA n1 n40]
  cases hd : aY d with
  | none =>
   obtain ⟨L, e⟩ := zS (M := M) (d := d) (k := I 0) n1 n40 fun N => ⟨_, HS hd⟩
   exact vK e
  | some l =>
   obtain ⟨hl, ho⟩ := h l hd
   dsimp only
   cases hf : cE n l [] 0 with
   | some b =>
    obtain ⟨L, e⟩ := zS (M := M) (d := d) (k := I (b : Nat)) n1 n40 fun N => LD hd hl hf
    exact vK e
   | none =>
    obtain ⟨us, vs, e⟩ := QX (M := M) hd hl hf n1 n40
    exact HE e
theorem AQ (lo : Int) (m : Nat) : jI lo (m + 1) = I lo :: jI (lo + 1) m := by
 unfold jI
 rw [List.range_succ_eq_map, List.map_cons, List.map_map]
 congr 1
 · show CD.d (.int (lo + ((0 : Nat) : Int))) = _
   rw [show lo + ((0 : Nat) : Int) = lo by omega]
 · refine List.map_congr_left fun i _ => ?_
   show CD.d (.int (lo + ((i + 1 : Nat) : Int))) = .d (.int (lo + 1 + (i : Nat)))
   rw [show lo + ((i + 1 : Nat) : Int) = lo + 1 + (i : Nat) by omega]
theorem slL (xs : List PyData) (lo hi : Option Int) (M : Sto) : slF (.d (.list xs)) lo hi M = some (.d (.list (eX xs lo hi)), M) := rfl
theorem sG {xs ys : List PyData} {M : Sto} (hl : (xs ++ ys).length <= sizeLine) : eU (.d (.list xs)) (.d (.list ys)) M = some (.d (.list (xs ++ ys)), M) := by
 have a : aAV (.d (.list xs)) (.d (.list ys)) M = none := rfl
 have c : SD (.d (.list xs)) (.d (.list ys)) M = some (.d (.list (xs ++ ys)), M) := by
  unfold SD
  simp only [AU, Option.bind_some]
  rw [<- List.map_append, lV, Option.bind_some, if_pos hl]
 unfold eU CO
 rw [a]
 dsimp only
 rw [c]
theorem KC {xs : List PyData} {r : Nat} (h : r <= xs.length) : eX xs none (some (r : Int)) = xs.take r := by
 unfold eX
 rw [HT.sIx_none, HT.sIx_nat, List.drop_zero, Nat.sub_zero, Nat.min_eq_left h]
theorem AO {xs : List PyData} {r : Nat} (h : r <= xs.length) : eX xs (some (r : Int)) none = xs.drop r := by
 unfold eX
 rw [HT.sIx_none, HT.sIx_nat, Nat.min_eq_left h, List.take_of_length_le]
 rw [List.length_drop]
 exact Nat.le_refl _
theorem dQ (us : List Tie) : (aV us).length = us.length := by unfold aV; rw [List.length_map]
theorem LA {M : Sto} {s : Nat} {n c j i : Int} {us : List Tie} {g6 : Option CD} (h : Stm M s) (h64 : us.length < 64) :
 ∃ us' g M', dY [some (.c s), some (I n), some (I c), some (.d (.list (aV us))), some (I j), some (I i), g6] M = some (.nx [some (.c s), some (I n), some (I c), some (.d (.list (aV us'))), some (I j), some (I i), g], M') /\ Stm M' s /\ (us' = us \/ ∃ a b, gQ a b = true /\ us'.Perm (⟨i, j, a, b⟩ :: us)) := by
 obtain ⟨r, M1, e1, r0, r1, n1⟩ := dB (m := 4) h (by decide) (by decide)
 have h1 := n1.stm h
 by_cases q : r < c
 · have ln : gN [.d (.list (aV us))] M1 = some (I us.length, M1) := by
    unfold gN
    dsimp only
    rw [show aY (.list (aV us)) = some (aV us) from rfl, Option.bind_some, dQ]
   obtain ⟨k, M2, e2, k0, k1, n2⟩ := dB (m := (us.length : Int) + 1) h1 (by omega) (by
    have : (2 : Int) ^ 200 = 1606938044258990275541962092341162602522202993782792835301376 := by decide
    omega)
   have h2 := n2.stm h1
   obtain ⟨a, b, M3, e3, w3, n3⟩ := BG h2
   have h3 := n3.stm h2
   obtain ⟨k, rfl⟩ : ∃ z : Nat, k = (z : Int) := ⟨k.toNat, by omega⟩
   have kl : k <= (aV us).length := by rw [dQ]; omega
   have rr : aV us = (aV us).take k ++ (aV us).drop k := (List.take_append_drop ..).symm
   have c1 := KC kl
   have c2 := AO kl
   have z1 : (1 : Nat) <= sizeLine := sz (by decide)
   have z2 : (2 : Nat) <= sizeLine := sz (by decide)
   have z3 : (3 : Nat) <= sizeLine := sz (by decide)
   have lt : ((aV us).take k).length <= us.length := by rw [List.length_take, dQ]; omega
   have ld : ((aV us).drop k).length <= us.length := by rw [List.length_drop, dQ]; omega
   have a1 : eU (.d (.list ((aV us).take k))) (.d (.list [.tuple [.int i, .int j, .tuple [.int a, .int b]]])) M3 = some (.d (.list ((aV us).take k ++ [.tuple [.int i, .int j, .tuple [.int a, .int b]]])), M3) := sG (sz (by rw [List.length_append, List.length_cons, List.length_nil]; omega))
   have a2 : eU (.d (.list ((aV us).take k ++ [.tuple [.int i, .int j, .tuple [.int a, .int b]]]))) (.d (.list ((aV us).drop k))) M3 = some (.d (.list ((aV us).take k ++ [.tuple [.int i, .int j, .tuple [.int a, .int b]]] ++ (aV us).drop k)), M3) := sG (sz (by rw [List.length_append, List.length_append, List.length_cons, List.length_nil]; omega))
   have er : (aV us).take k ++ [.tuple [.int i, .int j, .tuple [.int a, .int b]]] ++ (aV us).drop k = aV (us.take k ++ [⟨i, j, a, b⟩] ++ us.drop k) := by
    unfold aV
    rw [List.map_append, List.map_append, List.map_take, List.map_drop]
    rfl
   have e3 : bX [.c s] M2 = some (.d (.tuple [.int a, .int b]), M3) := e3
   refine ⟨us.take k ++ [⟨i, j, a, b⟩] ++ us.drop k, some (I k), M3, ?_, h3, .inr ⟨a, b, w3, ?_⟩⟩
   · rw [<- er]
     simp! [dY, fSl, cU, gP, e1, decide_eq_true q, ln, jK, e2, slL, yS, c1, c2, e3, z1, z2, z3, a1, a2]
   · rw [List.append_assoc]
     have p := List.perm_middle (a := (⟨i, j, a, b⟩ : Tie)) (l₁ := us.take k) (l₂ := us.drop k)
     rw [List.take_append_drop] at p
     exact p
 · refine ⟨us, g6, M1, ?_, h1, .inl rfl⟩
   simp! [dY, e1, decide_eq_false q]
structure Dr (n J K : Int) (us : List Tie) : Prop where
 ok : ∀ t ∈ us, (gQ t.a t.b = true /\ 0 <= t.i /\ t.i < t.j /\ t.j < n) /\ (t.j < J \/ (t.j = J /\ t.i < K))
 nd : (us.map Tie.key).Nodup
theorem Dr.more {n J K a b : Int} {us us' : List Tie} (d : Dr n J K us) (k0 : 0 <= K) (kj : K < J) (jn : J < n) (h : us' = us \/ ∃ a b, gQ a b = true /\ us'.Perm (⟨K, J, a, b⟩ :: us)) : Dr n J (K + 1) us' /\ us'.length <= us.length + 1 := by
 rcases h with rfl | ⟨a, b, w, p⟩
 · exact ⟨⟨fun t ht => ⟨(d.ok t ht).1, by have := (d.ok t ht).2; omega⟩, d.nd⟩, by omega⟩
 · refine ⟨⟨fun t ht => ?_, ?_⟩, by rw [p.length_eq, List.length_cons]; exact Nat.le_refl _⟩
   · rcases List.mem_cons.mp (p.subset ht) with rfl | ht
     · exact ⟨⟨w, k0, kj, jn⟩, .inr ⟨rfl, by show K < K + 1; omega⟩⟩
     · exact ⟨(d.ok t ht).1, by have := (d.ok t ht).2; omega⟩
   · rw [(p.map Tie.key).nodup_iff, List.map_cons, List.nodup_cons]
     refine ⟨fun z => ?_, d.nd⟩
     obtain ⟨t, ht, e⟩ := List.mem_map.mp z
     have e : ([.inl t.i, .inl t.j] : List Key) = [.inl K, .inl J] := e
     injection e with e1 e2
     injection e2 with e2 _
     injection e1 with e1
     injection e2 with e2
     have := (d.ok t ht).2
     omega
theorem inner {s : Nat} {n c j : Int} (jn : j < n) : ∀ (m : Nat) (i : Int) (us : List Tie) (g5 g6 : Option CD) (M : Sto), 0 <= i -> i + m = j -> Stm M s -> Dr n j i us -> us.length + m < 64 ->
 ∃ us' g g' M', jE (hName 5) dY (jI i m) [some (.c s), some (I n), some (I c), some (.d (.list (aV us))), some (I j), g5, g6] M = some (.nx [some (.c s), some (I n), some (I c), some (.d (.list (aV us'))), some (I j), g, g'], M') /\ Stm M' s /\ Dr n j j us' /\ us'.length <= us.length + m
 | 0, i, us, g5, g6, M, i0, hi, h, d, _ => ⟨us, g5, g6, M, rfl, h, by rwa [show i = j by omega] at d, Nat.le_refl _⟩
 | m + 1, i, us, g5, g6, M, i0, hi, h, d, hl => by
  obtain ⟨us1, g, M1, e1, h1, q⟩ := LA (n := n) (c := c) (j := j) (i := i) (g6 := g6) h (us := us) (by omega)
  obtain ⟨d1, l1⟩ := d.more (a := 0) (b := 0) i0 (by omega) jn q
  obtain ⟨us2, g2, g3, M2, e2, h2, d2, l2⟩ := inner jn m (i + 1) us1 (some (I i)) g M1 (by omega) (by omega) h1 d1 (by omega)
  refine ⟨us2, g2, g3, M2, ?_, h2, d2, by omega⟩
  rw [AQ]
  unfold jE
  simp only [hName, List.set_cons_zero, List.set_cons_succ, List.length_cons, Option.bind_some, e1]
  exact e2
def tri : Nat -> Nat
 | 0 => 0
 | k + 1 => tri k + k
theorem LN {J : Int} (h0 : 0 <= J) (h1 : J <= 40) : fR J = true := by
 simp only [fR, Bool.and_eq_true, decide_eq_true_eq]
 omega
theorem RL {J : Int} {x0 x1 x2 x3 : CD} {g5 g6 : Option CD} {γ' : Ga} {M M' : Sto} (h0 : 0 <= J) (h1 : J <= 40) (e : jE (hName 5) dY (jI 0 J.toNat) [some x0, some x1, some x2, some x3, some (I J), g5, g6] M = some (.nx γ', M')) : dR [some x0, some x1, some x2, some x3, some (I J), g5, g6] M = some (.nx γ', M') := by
 have sm := LN h0 h1
 simp! [dR, pB, kR, sm, e]
theorem MQ (k : Nat) : tri (k + 1) = tri k + k := rfl
theorem aCP {j : Nat} (h : j <= 8) : tri j <= 28 := by
 have : j = 0 \/ j = 1 \/ j = 2 \/ j = 3 \/ j = 4 \/ j = 5 \/ j = 6 \/ j = 7 \/ j = 8 := by omega
 rcases this with rfl | rfl | rfl | rfl | rfl | rfl | rfl | rfl | rfl <;> decide
theorem JV {s : Nat} {n c : Int} (n9 : n <= 9) {j : Nat} {us : List Tie} {g4 g5 g6 : Option CD} {M : Sto} (hj : (j : Int) < n) (h : Stm M s) (d : Dr n j 0 us) (l : us.length <= tri j) :
 ∃ us' g' g'' M', dR [some (.c s), some (I n), some (I c), some (.d (.list (aV us))), some (I j), g5, g6] M = some (.nx [some (.c s), some (I n), some (I c), some (.d (.list (aV us'))), some (I j), g', g''], M') /\ Stm M' s /\ Dr n ((j + 1 : Nat) : Int) 0 us' /\ us'.length <= tri (j + 1) := by
 have t8 := aCP (j := j) (by omega)
 obtain ⟨us1, g, g', M1, e1, h1, d1, l1⟩ := inner (s := s) (n := n) (c := c) (j := (j : Int)) hj j 0 us g5 g6 M (by omega) (by omega) h d (by omega)
 have d2 : Dr n ((j + 1 : Nat) : Int) 0 us1 := ⟨fun t ht => ⟨(d1.ok t ht).1, by have := (d1.ok t ht).2; omega⟩, d1.nd⟩
 refine ⟨us1, g, g', M1, ?_, h1, d2, by rw [MQ]; omega⟩
 exact RL (by omega) (by omega) (by rw [Int.toNat_natCast]; exact e1)
theorem outer {s : Nat} {n c : Int} (n9 : n <= 9) (m : Nat) : ∀ (j : Nat) (us : List Tie) (g4 g5 g6 : Option CD) (M : Sto), ((j + m : Nat) : Int) = n -> Stm M s -> Dr n j 0 us -> us.length <= tri j ->
 ∃ us' g g' g'' M', jE (hName 4) dR (jI j m) [some (.c s), some (I n), some (I c), some (.d (.list (aV us))), g4, g5, g6] M = some (.nx [some (.c s), some (I n), some (I c), some (.d (.list (aV us'))), g, g', g''], M') /\ Stm M' s /\ Dr n n 0 us' /\ us'.length <= tri (j + m) := by
 induction m with
 | zero => intro j us g4 g5 g6 M hj h d l; exact ⟨us, g4, g5, g6, M, rfl, h, by rwa [show ((j : Nat) : Int) = n by omega] at d, l⟩
 | succ m ih =>
  intro j us g4 g5 g6 M hj h d l
  obtain ⟨us1, g, g', M1, e1, h1, d1, l1⟩ := JV (c := c) (g4 := g4) (g5 := g5) (g6 := g6) n9 (j := j) (us := us) (M := M) (by omega) h d l
  obtain ⟨us2, q1, q2, q3, M2, e2, h2, d2, l2⟩ := ih (j + 1) us1 (some (I j)) g g' M1 (by omega) h1 d1 l1
  refine ⟨us2, q1, q2, q3, M2, ?_, h2, d2, by rwa [show j + (m + 1) = j + 1 + m by omega]⟩
  rw [AQ, show ((j : Nat) : Int) + 1 = ((j + 1 : Nat) : Int) by omega]
  unfold jE
  rw [show hName 4 (I j) [some (.c s), some (I n), some (I c), some (.d (.list (aV us))), g4, g5, g6] M = some ([some (.c s), some (I n), some (I c), some (.d (.list (aV us))), some (I j), g5, g6], M) from rfl, Option.bind_some, e1, Option.bind_some]
  exact e2
theorem YE {M : Sto} {s : Nat} {n : Int} (h : Stm M s) (n1 : 1 <= n) (n9 : n <= 9) : ∃ us M', iN [.c s, I n] M = some (.d (.list (aV us)), M') /\ Stm M' s /\ Ok n us /\ us.length <= 36 := by
 obtain ⟨c, M1, e1, c0, c1, m1⟩ := dB (m := 4) h (by decide) (by decide)
 obtain ⟨us, g, g', g'', M2, e2, h2, d2, l2⟩ := outer (s := s) (n := n) (c := c) n9 n.toNat 0 [] none none none M1 (by omega) (m1.stm h) ⟨fun t ht => (by cases ht), List.nodup_nil⟩ (Nat.le_refl _)
 have e2 : jE (hName 4) dR (jI 0 n.toNat) [some (.c s), some (I n), some (I c), some (.d (.list [])), none, none, none] M1 = _ := e2
 have t9 : tri (0 + n.toNat) <= 36 := by
  obtain ⟨k, hk⟩ : ∃ k, n.toNat = k := ⟨_, rfl⟩
  rw [hk]
  have : k = 0 \/ k = 1 \/ k = 2 \/ k = 3 \/ k = 4 \/ k = 5 \/ k = 6 \/ k = 7 \/ k = 8 \/ k = 9 := by omega
  rcases this with rfl | rfl | rfl | rfl | rfl | rfl | rfl | rfl | rfl | rfl <;> decide
 refine ⟨us, M2, ?_, h2, ⟨fun t ht => (d2.ok t ht).1, d2.nd, by omega⟩, by omega⟩
 have sm : fR n = true := by
  simp only [fR, Bool.and_eq_true, decide_eq_true_eq]
  omega
 have z0 : (0 : Nat) <= sizeLine := Nat.zero_le _
 simp! [iN, mG, pB, kR, e1, z0, sm, e2]
def Sml (t : Tie) : Prop := t.i.natAbs < 2 ^ 200 /\ t.j.natAbs < 2 ^ 200 /\ t.a.natAbs < 2 ^ 200 /\ t.b.natAbs < 2 ^ 200
theorem CA {n : Int} {us : List Tie} (ok : Ok n us) (n40 : n <= 40) : ∀ t ∈ us, Sml t := fun t ht => by
 obtain ⟨h1, h2, h3, h4⟩ := ok.1 t ht
 obtain ⟨a0, a1, b0, b1⟩ := VP h1
 exact ⟨by omega, by omega, by omega, by omega⟩
theorem KL {p q w : PyData} (hp : Fit 4100 1 p) (hq : Fit 4100 1 q) (hw : Fit 4100 1 w) : Fit 30000 4 (.tuple [p, q, w]) :=
 (Fit.tuple (w := 4100) (m := 1) (k := 3) (ds := [p, q, w]) (fun d hd => by
  simp only [List.mem_cons, List.not_mem_nil, or_false] at hd
  rcases hd with rfl | rfl | rfl
  · exact hp
  · exact hq
  · exact hw) (Nat.le_refl _)).mono (by decide) (by decide)
theorem pP {i : Int} (h : i.natAbs < 2 ^ 200) : Fit 4100 1 (.int i) := (Fit.int (cR h)).mono (by decide) (by decide)
theorem ZZ {t : Tie} (h : Sml t) : Row 3 (f2 t) := ⟨fun d hd => by
 unfold f2 at hd
 simp only [List.mem_cons, List.not_mem_nil, or_false] at hd
 rcases hd with rfl | rfl | rfl
 · exact pP h.1
 · exact pP h.2.1
 · exact cT h.2.2.1 h.2.2.2, Nat.le_refl _⟩
theorem NH {t : Tie} (h : Sml t) : Fit 30000 4 (.tuple (f2 t)) := KL (pP h.1) (pP h.2.1) (cT h.2.2.1 h.2.2.2)
def TH : List PyData := [(.tuple [(.int 2), (.int 2)]), (.tuple [(.int 0), (.int 2)]), (.tuple [(.int 1), (.int 13)]), (.tuple [(.int 1000000000001), (.int 1)]), (.tuple [(.int (-1)), (.int 1)]), (.tuple [(.bool true), (.int 1)]), (.int 1)]
theorem aAm (γ : Ga) (M : Sto) : fY γ M = some (.d (.list TH), M) := rfl
theorem IP : ∀ d ∈ TH, Fit 4100 1 d := by
 intro d hd
 unfold TH at hd
 simp only [List.mem_cons, List.not_mem_nil, or_false] at hd
 rcases hd with rfl | rfl | rfl | rfl | rfl | rfl | rfl
 · exact cT (by decide) (by decide)
 · exact cT (by decide) (by decide)
 · exact cT (by decide) (by decide)
 · exact cT (by decide) (by decide)
 · exact cT (by decide) (by decide)
 · refine (Fit.tuple (w := 2000) (m := 0) (k := 2) (ds := [.bool true, .int 1]) (fun d hd => ?_) (Nat.le_refl _)).mono (by decide) (Nat.le_refl _)
   simp only [List.mem_cons, List.not_mem_nil, or_false] at hd
   rcases hd with rfl | rfl
   · exact ⟨rfl, by decide, by decide⟩
   · exact Fit.int (cR (by decide))
 · exact pP (by decide)
noncomputable def hJ : SF := (bC (cN (aM aR (aB (aE 0) (aB (fC (.int 6)) aJ))) (hName 5))
 (bC (sIf (gB (fOp (eqX false) (aE 5) (fC (.int 0))))
  (bL (aM eJ (aB (aE 0) (aB (aE 4) aJ))))
  bM)
 (bC (sIf (gB (fOp (eqX false) (aE 5) (fC (.int 1))))
  (bL (cL (aB (fOp ixF (aE 4) (fC (.int 1))) (aB (fOp ixF (aE 4) (fC (.int 0))) (aB (fOp ixF (aE 4) (fC (.int 2))) aJ)))))
  bM)
 (bC (sIf (gB (fOp (eqX false) (aE 5) (fC (.int 2))))
  (bL (cL (aB (fOp ixF (aE 4) (fC (.int 0))) (aB (fOp ixF (aE 4) (fC (.int 1))) (aB (aM bX (aB (aE 0) aJ)) aJ)))))
  bM)
 (bC (sIf (gB (fOp (eqX false) (aE 5) (fC (.int 3))))
  (bL (cL (aB (fOp ixF (aE 4) (fC (.int 0))) (aB (aE 2) (aB (fOp ixF (aE 4) (fC (.int 2))) aJ)))))
  bM)
 (bC (sIf (gB (fOp (eqX false) (aE 5) (fC (.int 4))))
  (bC (cN fY (hName 6))
 (bL (cL (aB (fOp ixF (aE 4) (fC (.int 0))) (aB (fOp ixF (aE 4) (fC (.int 1))) (aB (aM dF (aB (aE 0) (aB (aE 6) aJ))) aJ))))))
  bM)
 (bL (aM (cB 4) (aB (aE 0) (aB (aE 1) (aB (fC (.int 2)) aJ)))))))))))
theorem IM : iG = bC (cN gA (hName 4)) (bC (sIf (gB (fOp (eqX true) (aE 3) (gZ aJ))) (cN (aM dF (aB (aE 0) (aB (aE 3) aJ))) (hName 4)) bM) hJ) := rfl
theorem QV (t : Tie) (M : Sto) : ixF (.d (.tuple (f2 t))) (I 0) M = some (I t.i, M) /\ ixF (.d (.tuple (f2 t))) (I 1) M = some (I t.j, M) /\ ixF (.d (.tuple (f2 t))) (I 2) M = some (T2 t.a t.b, M) := ⟨rfl, rfl, rfl⟩
theorem zN {ns : List Int} {i : Nat} {n : Int} {x : CD} {t : Tie} {M : Sto} (h : Stm M i) (ht : Sml t) (n0 : 0 <= n) (n40 : n <= 40) :
 ∃ d M', hJ [some (.c i), some (Sc ns), some (I n), some x, some (.d (.tuple (f2 t))), none, none] M = some (.rt (.d d), M') /\ Fit 30000 4 d /\ Stm M' i := by
 obtain ⟨c, M1, e1, c0, c1, n1⟩ := dB (m := 6) h (by decide) (by decide)
 have s1 := n1.stm h
 have z3 : (3 : Nat) <= sizeLine := sz (by decide)
 have fn : Fit 4100 1 (.int n) := pP (by omega)
 cases q0 : (c == 0) with
 | true =>
  obtain ⟨es, M2, e2, r2, n2⟩ := XQ s1 (ZZ ht) (Nat.succ_pos 2) (by decide)
  refine ⟨.tuple es, M2, ?_, (Fit.tuple r2.fit r2.len).mono (by decide) (by decide), n2.stm s1⟩
  simp! [hJ, e1, qE, q0, e2]
 | false =>
  cases q1 : (c == 1) with
  | true =>
   obtain ⟨x0, x1, x2⟩ := QV t M1
   refine ⟨.tuple [.int t.j, .int t.i, .tuple [.int t.a, .int t.b]], M1, ?_, KL (pP ht.2.1) (pP ht.1) (cT ht.2.2.1 ht.2.2.2), s1⟩
   simp! [hJ, e1, qE, q0, q1, x0, x1, x2, if_pos z3, Nat.zero_add]
  | false =>
   cases q2 : (c == 2) with
   | true =>
    obtain ⟨x0, x1, x2⟩ := QV t M1
    obtain ⟨a, b, M2, e2, w2, n2⟩ := BG s1
    obtain ⟨a0, a1, b0, b1⟩ := VP w2
    refine ⟨.tuple [.int t.i, .int t.j, .tuple [.int a, .int b]], M2, ?_, KL (pP ht.1) (pP ht.2.1) (cT (by omega) (by omega)), n2.stm s1⟩
    simp! [hJ, e1, qE, q0, q1, q2, x0, x1, e2, if_pos z3, Nat.zero_add]
   | false =>
    cases q3 : (c == 3) with
    | true =>
     obtain ⟨x0, x1, x2⟩ := QV t M1
     refine ⟨.tuple [.int t.i, .int n, .tuple [.int t.a, .int t.b]], M1, ?_, KL (pP ht.1) fn (cT ht.2.2.1 ht.2.2.2), s1⟩
     simp! [hJ, e1, qE, q0, q1, q2, q3, x0, x2, if_pos z3, Nat.zero_add]
    | false =>
     cases q4 : (c == 4) with
     | true =>
      obtain ⟨x0, x1, x2⟩ := QV t M1
      obtain ⟨d, M2, e2, hd, n2⟩ := CP (ds := TH) s1 (by decide) (by decide)
      refine ⟨.tuple [.int t.i, .int t.j, d], M2, ?_, KL (pP ht.1) (pP ht.2.1) (IP d hd), n2.stm s1⟩
      simp! [hJ, e1, qE, q0, q1, q2, q3, q4, aAm, x0, x1, e2, if_pos z3, Nat.zero_add]
     | false =>
      obtain ⟨d, M2, e2, f2', s2⟩ := DV (ns := ns) 4 2 (by decide) s1
      refine ⟨d, M2, ?_, f2'.1.mono (by decide) (by decide), s2⟩
      have e2 : cB 4 [.c i, Sc ns, I 2] M1 = some (.d d, M2) := e2
      simp! [hJ, e1, qE, q0, q1, q2, q3, q4, e2]
theorem qZ : ∀ us : List Tie, PyData.canLayAll0 (aV us) = true
 | [] => rfl
 | t :: us => by show (true && PyData.canLayAll0 (aV us)) = true; rw [qZ us]; rfl
theorem tQ : ∀ us : List Tie, PyData.depthAll (aV us) <= 2
 | [] => by decide
 | t :: us => by
  show max 2 (PyData.depthAll (aV us)) <= 2
  exact Nat.max_le.mpr ⟨Nat.le_refl _, tQ us⟩
theorem RW (us : List Tie) (M : Sto) : eqX true (.d (.list (aV us))) (.d (.list [])) M = some (B (!us.isEmpty), M) := by
 have e1 : SeqAt.shaped (.list (aV us)) = true := by
  unfold SeqAt.shaped
  have e2 : PyData.canLay0 (.list (aV us)) = true := qZ us
  have e3 : PyData.depth (.list (aV us)) <= 64 := by
   show PyData.depthAll (aV us) + 1 <= 64
   have := tQ us
   omega
  rw [e2, decide_eq_true e3]
  rfl
 have e2 : SeqAt.shaped (.list []) = true := rfl
 show (if (SeqAt.shaped (.list (aV us)) && SeqAt.shaped (.list [])) = true then some (B (!PyData.eqv (.list (aV us)) (.list [])), M) else none) = _
 rw [e1, e2]
 cases us <;> rfl
theorem VM {ns : List Int} {i : Nat} {n : Int} {us : List Tie} {M : Sto} (h : Stm M i) (ok : Ok n us) (n1 : 1 <= n) (n40 : n <= 40) :
 ∃ d M', dD [.c i, Sc ns, I n, .d (.list (aV us))] M = some (.d d, M') /\ Fit 30000 4 d /\ Stm M' i := by
 have z0 : (0 : Nat) <= sizeLine := Nat.zero_le _
 have ne := RW us M
 cases hu : us with
 | nil =>
  subst hu
  obtain ⟨d, M1, e1, f1, s1⟩ := zN (ns := ns) (n := n) (x := .d (.list (aV []))) (t := ⟨0, 1, 1, 1⟩) h ⟨by decide, by decide, by decide, by decide⟩ (by omega) n40
  have e1 : hJ [some (.c i), some (Sc ns), some (I n), some (.d (.list (aV []))), some (.d (.tuple [(.int 0), (.int 1), (.tuple [(.int 1), (.int 1)])])), none, none] M = some (.rt (.d d), M1) := e1
  refine ⟨d, M1, ?_, f1, s1⟩
  have em : (!([] : List Tie).isEmpty) = false := rfl
  rw [em] at ne
  simp! [dD, IM, iQ, if_pos z0, ne, e1]
 | cons t0 us' =>
  have l0 : 0 < (aV us).length := by rw [dQ, hu]; exact Nat.succ_pos _
  have l1 : (aV us).length < 1000 := by rw [dQ]; have := ok.2.2; omega
  obtain ⟨d0, M0, e0, hd0, n0⟩ := CP (ds := aV us) h l0 l1
  obtain ⟨t, ht, rfl⟩ := List.mem_map.mp hd0
  obtain ⟨d, M1, e1, f1, s1⟩ := zN (ns := ns) (n := n) (x := .d (.list (aV us))) (t := t) (n0.stm h) (CA ok n40 t ht) (by omega) n40
  have em : (!us.isEmpty) = true := by rw [hu]; rfl
  rw [em] at ne
  rw [<- hu]
  refine ⟨d, M1, ?_, f1, s1⟩
  simp! [dD, IM, iQ, if_pos z0, ne, e0, e1]
theorem oY {g : GF} {b : SF} (Inv : Ga -> Sto -> Prop) : ∀ xs : List CD, (∀ x ∈ xs, ∀ γ M, Inv γ M -> ∃ γ1 M1 γ' M', g x γ M = some (γ1, M1) /\ b γ1 M1 = some (.nx γ', M') /\ Inv γ' M') -> ∀ γ M, Inv γ M -> ∃ γ' M', jE g b xs γ M = some (.nx γ', M') /\ Inv γ' M'
 | [], _, γ, M, h => ⟨γ, M, rfl, h⟩
 | x :: xs, hs, γ, M, h => by
  obtain ⟨γ1, M1, γ2, M2, e1, e2, h2⟩ := hs x List.mem_cons_self γ M h
  obtain ⟨γ', M', e3, h3⟩ := oY Inv xs (fun y hy => hs y (List.mem_cons_of_mem _ hy)) γ2 M2 h2
  refine ⟨γ', M', ?_, h3⟩
  unfold jE
  rw [e1, Option.bind_some]
  dsimp only
  rw [e2, Option.bind_some]
  exact e3
theorem RU {lo : Int} {n : Nat} {x : CD} (h : x ∈ jI lo n) : ∃ j : Nat, j < n /\ x = I (lo + j) := by
 unfold jI at h
 obtain ⟨j, hj, rfl⟩ := List.mem_map.mp h
 exact ⟨j, List.mem_range.mp hj, rfl⟩
theorem lF (s : Str) (k : Int) (M : Sto) (h1 : SeqAt.shaped (ans s k) = true) : eqX true (.d (ans s k)) (.d (ans s k)) M = some (B false, M) := by
 have h2 : PyData.eqv (ans s k) (ans s k) = (s == s && (k == k && (true == true && true))) := rfl
 show (if (SeqAt.shaped (ans s k) && SeqAt.shaped (ans s k)) = true then some (B (!PyData.eqv (ans s k) (ans s k)), M) else none) = _
 rw [h1, h2]
 simp
theorem iC {s : Str} {k : Int} (h : PyData.canLay0 (.str s) = true) : SeqAt.shaped (ans s k) = true := by
 unfold SeqAt.shaped ans
 show ((PyData.canLay0 (.str s) && (true && (true && true))) && _) = true
 rw [h]
 rfl
theorem BH (m d : PyData) (M : Sto) : eqX true (.d (oF m d)) (.d (oF m d)) M = some (B false, M) := by
 unfold oF
 split
 · split
   · split
     · exact lF _ _ M (iC (by decide +kernel))
     · split
       · exact lF _ _ M (iC (by decide +kernel))
       · exact lF _ _ M (iC (by decide +kernel))
   · exact lF _ _ M (iC (by decide +kernel))
 · exact lF _ _ M (iC (by decide +kernel))
theorem jT {d : PyData} (h : oks d = true) (hl : ∀ l, aY d = some l -> l.length < 64) : yL d := fun l e => ⟨hl l e, qC h e⟩
theorem UY : yL (.tuple []) := jT rfl fun l e => by cases e; decide
theorem VZ : yL (.list [.int 7]) := jT (by decide) fun l e => by cases e; decide
theorem Stm.app {M L : Sto} {i : Nat} (h : Stm M i) : Stm (M ++ L) i := by
 have lt := h.lt
 obtain ⟨a, b, h1, r⟩ := h
 exact ⟨a, b, by rw [List.getElem?_append_left lt]; exact h1, r⟩
theorem aBv {m : PyData} {g0 g2 g3 g4 g5 g6 g7 g8 : Option CD} {M : Sto} : ∃ L, rW [g0, some (.d m), g2, g3, g4, g5, g6, g7, g8] M = some (.nx [g0, some (.d m), g2, g3, g4, g5, g6, g7, g8], M ++ L) := by
 obtain ⟨L1, e1⟩ := rZ (m := m) (M := M) UY
 obtain ⟨L2, e2⟩ := yB (m := m) (M := M ++ L1) UY
 obtain ⟨L3, e3⟩ := rZ (m := m) (M := M ++ L1 ++ L2) VZ
 obtain ⟨L4, e4⟩ := yB (m := m) (M := M ++ L1 ++ L2 ++ L3) VZ
 have z0 : (0 : Nat) <= sizeLine := Nat.zero_le _
 refine ⟨L1 ++ (L2 ++ (L3 ++ L4)), ?_⟩
 rw [<- List.append_assoc, <- List.append_assoc, <- List.append_assoc]
 simp! [rW, if_pos z0, e1, e2, e3, e4, BH, NC, OD]
theorem aBQ {m d : PyData} {g0 g2 g3 g4 g5 g6 g7 : Option CD} {M : Sto} (h : yL d) : ∃ L, rX [g0, some (.d m), g2, g3, g4, g5, g6, g7, some (.d d)] M = some (.nx [g0, some (.d m), g2, g3, g4, g5, g6, g7, some (.d d)], M ++ L) := by
 obtain ⟨L1, e1⟩ := rZ (m := m) (M := M) h
 obtain ⟨L2, e2⟩ := yB (m := m) (M := M ++ L1) h
 refine ⟨L1 ++ L2, ?_⟩
 rw [<- List.append_assoc]
 simp! [rX, e1, e2, BH]
theorem pF : ∀ ds : List PyData, (bV ds).length = ds.length
 | [] => rfl
 | d :: ds => by unfold bV; rw [List.length_cons, List.length_cons, pF ds]
theorem aBM {ns : List Int} {k : Int} {g1 g3 g4 g5 g6 g7 g8 : Option CD} {M : Sto} (k0 : 0 <= k) (k1 : k < 5) :
 ∃ γ' M', rP [some (Sc ns), g1, some (I k), g3, g4, g5, g6, g7, g8] M = some (.nx γ', M') /\ ∃ a1 a2 a3 a4 a5 a6 a7 a8, γ' = [some (Sc ns), a1, a2, a3, a4, a5, a6, a7, a8] := by
 obtain ⟨M1, e1, s1⟩ := LF (ns := ns) (M := M) k0 (by omega)
 obtain ⟨i, hi⟩ : ∃ i, M.length = i := ⟨_, rfl⟩
 rw [hi] at e1 s1
 obtain ⟨c, M2, e2, c0, c1, n2⟩ := dB (m := 9) s1 (by decide) (by decide)
 have s2 := n2.stm s1
 obtain ⟨us, M3, e3, s3, ok, lu⟩ := YE (n := 1 + c) s2 (by omega) (by omega)
 have ln : gN [.d (.list (aV us))] M3 = some (I us.length, M3) := by
  unfold gN
  dsimp only
  rw [show aY (.list (aV us)) = some (aV us) from rfl, Option.bind_some, dQ]
 obtain ⟨p, M4, e4, p0, p1, n4⟩ := dB (m := (us.length : Int) + 1) s3 (by omega) (by
  have : (2 : Int) ^ 200 = 1606938044258990275541962092341162602522202993782792835301376 := by decide
  omega)
 have s4 := n4.stm s3
 obtain ⟨p, rfl⟩ : ∃ z : Nat, p = (z : Int) := ⟨p.toNat, by omega⟩
 have pl : p <= (aV us).length := by rw [dQ]; omega
 have q1 := KC pl
 have q2 := AO pl
 obtain ⟨b1, M5, e5, f5, s5⟩ := VM (ns := ns) s4 ok (by omega) (by omega)
 obtain ⟨b2, M6, e6, f6, s6⟩ := VM (ns := ns) s5 ok (by omega) (by omega)
 have lt : ((aV us).take p).length <= us.length := by rw [List.length_take, dQ]; omega
 have ld : ((aV us).drop p).length <= us.length := by rw [List.length_drop, dQ]; omega
 have lo : ((aV us).take p ++ [b1] ++ (aV us).drop p).length = us.length + 1 := by
  rw [List.length_append, List.length_append, List.length_take, List.length_drop, dQ, List.length_singleton]
  have : p <= us.length := by omega
  omega
 have a1 : eU (.d (.list ((aV us).take p))) (.d (.list [b1])) M5 = some (.d (.list ((aV us).take p ++ [b1])), M5) := sG (sz (by rw [List.length_append, List.length_singleton]; omega))
 have a2 : eU (.d (.list ((aV us).take p ++ [b1]))) (.d (.list ((aV us).drop p))) M5 = some (.d (.list ((aV us).take p ++ [b1] ++ (aV us).drop p)), M5) := sG (sz (by rw [lo]; omega))
 have fo : ∀ d ∈ (aV us).take p ++ [b1] ++ (aV us).drop p, Fit 30000 4 d := by
  intro d hd
  have fr : ∀ d ∈ aV us, Fit 30000 4 d := fun d hd => by
   obtain ⟨t, ht, rfl⟩ := List.mem_map.mp hd
   exact NH (CA ok (by omega) t ht)
  rcases List.mem_append.mp hd with hd | hd
  · rcases List.mem_append.mp hd with hd | hd
    · exact fr d (List.mem_of_mem_take hd)
    · rw [List.mem_singleton.mp hd]; exact f5
  · exact fr d (List.mem_of_mem_drop hd)
 generalize (aV us).take p ++ [b1] ++ (aV us).drop p = one at a2 lo fo
 have lo2 : (one ++ [b2]).length = us.length + 2 := by rw [List.length_append, lo]; rfl
 have a3 : eU (.d (.list one)) (.d (.list [b2])) M6 = some (.d (.list (one ++ [b2])), M6) := sG (sz (by rw [lo2]; omega))
 have ft : ∀ d ∈ one ++ [b2], Fit 30000 4 d := fun d hd => by
  rcases List.mem_append.mp hd with hd | hd
  · exact fo d hd
  · rw [List.mem_singleton.mp hd]; exact f6
 generalize one ++ [b2] = two at a3 lo2 ft
 have F2 : Fit 2000000 5 (.tuple two) := (Fit.tuple (k := 38) ft (by omega)).mono (by decide) (by decide)
 have F1 : Fit 2000000 5 (.list one) := (Fit.list (k := 38) fo (by omega)).mono (by decide) (by decide)
 have t2 : ∀ N : Sto, fW [.d (.list two)] N = some (.d (.tuple two), N) := fun _ => rfl
 have l2 := DX M6 6 (.tuple two) (Nat.lt_of_le_of_lt F2.dp (by decide)) (Nat.le_trans F2.wt (by rw [sizeLine_eq]; decide))
 obtain ⟨w, M7, e7, f7, s7⟩ := DV (ns := ns) 4 3 (by decide) s6
 have e7 : cB 4 [.c i, Sc ns, I 3] M6 = some (.d w, M7) := e7
 have ni : ∀ x ∈ ([.list one, .tuple two, fV (.tuple two), w] : List PyData), yL x := by
  intro x hx
  simp only [List.mem_cons, List.not_mem_nil, or_false] at hx
  rcases hx with rfl | rfl | rfl | rfl
  · exact jT F1.ok fun l e => by cases e; omega
  · exact jT F2.ok fun l e => by cases e; omega
  · exact jT (Fit.lists F2).ok fun l e => by
     have e : some (bV two) = some l := e
     cases e
     rw [pF]; omega
  · exact jT f7.1.ok fun l e => Nat.lt_of_le_of_lt (f7.2 l e) (by decide)
 have z4 : (4 : Nat) <= sizeLine := sz (by decide)
 have z1 : (1 : Nat) <= sizeLine := sz (by decide)
 obtain ⟨γ8, M8, e8, ⟨h8, rfl⟩, s8⟩ := oY (g := hName 8) (b := rX) (fun γ N => (∃ h, γ = [some (Sc ns), some (I (1 + c)), some (I k), some (.c i), some (.d (.list (aV us))), some (I (p : Nat)), some (.d (.list one)), some (.d (.list two)), h]) /\ Stm N i)
  (([.list one, .tuple two, fV (.tuple two), w] : List PyData).map .d) (fun x hx γ N hI => by
    obtain ⟨⟨h, rfl⟩, sN⟩ := hI
    obtain ⟨d, hd, rfl⟩ := List.mem_map.mp hx
    obtain ⟨L, e⟩ := aBQ (m := .int (1 + c)) (d := d) (g0 := some (Sc ns)) (g2 := some (I k)) (g3 := some (.c i)) (g4 := some (.d (.list (aV us)))) (g5 := some (I (p : Nat))) (g6 := some (.d (.list one))) (g7 := some (.d (.list two))) (M := N) (ni d hd)
    exact ⟨_, N, _, _, rfl, e, ⟨_, rfl⟩, sN.app⟩) [some (Sc ns), some (I (1 + c)), some (I k), some (.c i), some (.d (.list (aV us))), some (I (p : Nat)), some (.d (.list one)), some (.d (.list two)), g8] M7 ⟨⟨g8, rfl⟩, s7⟩
 obtain ⟨v, M9, e9, f9, s9⟩ := DV (ns := ns) 4 2 (by decide) s8
 have e9 : cB 4 [.c i, Sc ns, I 2] M8 = some (.d v, M9) := e9
 have nr : yL (.list (aV us)) := jT (show iD (aV us) = true from qF fun d hd => by
  obtain ⟨t, ht, rfl⟩ := List.mem_map.mp hd
  exact (NH (CA ok (by omega) t ht)).ok) fun l e => by cases e; rw [dQ]; omega
 obtain ⟨L10, e10⟩ := rZ (m := v) (M := M9) nr
 obtain ⟨L11, e11⟩ := yB (m := v) (M := M9 ++ L10) nr
 rw [List.map_cons, List.map_cons, List.map_cons, List.map_cons, List.map_nil] at e8
 refine ⟨[some (Sc ns), some (I (1 + c)), some (I k), some (.c i), some (.d (.list (aV us))), some (I (p : Nat)), some (.d (.list one)), some (.d (.list two)), some (.d v)], M9 ++ L10 ++ L11, ?_, _, _, _, _, _, _, _, _, rfl⟩
 simp! [rP, pB, fG, aY, fSl, cU, gP, e1, e2, jK, e3, ln, e4, slL, yS, q1, q2, e5, if_pos z1, Nat.zero_add, a1, a2, e6, a3, t2, l2, e7, if_pos z4, e8, e9, e10, e11, BH]
theorem main (ns : List Int) (hl : ns.length <= 63) : ∃ M', F_law [.d (.list (ns.map .int))] [] = some (.d (.bool true), M') := by
 have it : fG EN [some (Sc ns), none, none, none, none, none, none, none, none] [] = some (([(.int 0), (.int 1), (.int 40), (.int 41), (.int (-1)), (.bool true), (.bool false), .none, (.str "3"), (.tuple [(.int 3)]), (.list []), (.int 1000000000000000000000000000000), (.dict [])] : List PyData).map .d, []) := rfl
 obtain ⟨γ1, M1, e1, h1, rfl⟩ := oY (g := hName 1) (b := rW) (fun γ _ => ∃ h, γ = [some (Sc ns), h, none, none, none, none, none, none, none])
  (([(.int 0), (.int 1), (.int 40), (.int 41), (.int (-1)), (.bool true), (.bool false), .none, (.str "3"), (.tuple [(.int 3)]), (.list []), (.int 1000000000000000000000000000000), (.dict [])] : List PyData).map .d) (fun x hx γ N hI => by
    obtain ⟨h, rfl⟩ := hI
    obtain ⟨m, _, rfl⟩ := List.mem_map.mp hx
    obtain ⟨L, e⟩ := aBv (m := m) (g0 := some (Sc ns)) (g2 := none) (g3 := none) (g4 := none) (g5 := none) (g6 := none) (g7 := none) (g8 := none) (M := N)
    exact ⟨_, N, _, _, rfl, e, _, rfl⟩) [some (Sc ns), none, none, none, none, none, none, none, none] [] ⟨none, rfl⟩
 obtain ⟨γ2, M2, e2, _⟩ := oY (g := hName 2) (b := rP) (fun γ _ => ∃ a1 a2 a3 a4 a5 a6 a7 a8, γ = [some (Sc ns), a1, a2, a3, a4, a5, a6, a7, a8]) (jI 0 5) (fun x hx γ N hI => by
  obtain ⟨a1, a2, a3, a4, a5, a6, a7, a8, rfl⟩ := hI
  obtain ⟨j, hj, rfl⟩ := RU hx
  obtain ⟨γ', M', e, h⟩ := aBM (ns := ns) (k := 0 + (j : Int)) (g1 := a1) (g3 := a3) (g4 := a4) (g5 := a5) (g6 := a6) (g7 := a7) (g8 := a8) (M := N) (by omega) (by omega)
  exact ⟨_, N, γ', M', rfl, e, h⟩) [some (Sc ns), h1, none, none, none, none, none, none, none] M1 ⟨_, _, _, _, _, _, _, _, rfl⟩
 simp only [List.map_cons, List.map_nil] at e1 it
 have sm : fR 5 = true := by decide
 have r5 : jI 0 (5 : Int).toNat = jI 0 5 := rfl
 refine ⟨M2, ?_⟩
 simp! [F_law, JU, pB, kR, it, e1, sm, r5, e2]
end Q5
end
open PySem PySem.W PyProof.Rows
set_option maxRecDepth 100000 in
set_option maxHeartbeats 0 in
theorem PySem.Challenge.cw_cutstree_k05_web_refused_holds : PySem.Challenge.rw_cutstree_k05_web_refused.Holds := by
 refine Q5.k_top ?_
 k_fill
 refine L2.law_walk (l := PySem.Challenge.rw_cutstree_k05_web_refused) (F := Q5.F_law) (k := 11) (p := "_law_script") (by decide +kernel) rfl rfl ⟨fun _ => rfl, by decide, by decide, rfl⟩ (fun w h Y => PySem.W.kIn_of Y) ?T Q5.main
 case T =>
  intro w mg h KX G
  refine Q5.fn_law (K := _) (mg := mg) ?TT
  refine' Q5.txt_mk KX G ?z_ValueError ?z_all ?z_bool ?z_enumerate ?z_int ?z_isinstance ?z_len ?z_list ?z_range ?z_sorted ?z_tuple ?u_MOST_ABOVE ?u_BELOW ?u_MOST_PLACES ?a_NoTie ?xc_NoTie_ga ?xc_NoTie_gh ?xc_NoTie_be ?xc_NoTie_cl ?xc_NoTie_ha ?xc_NoTie_hn ?xc_NoTie_htk ?xc_NoTie_hm ?a_Web ?cl_Web_pg ?cl_Web_hd ?cl_Web_po ?cl_Web_sa ?na_Web_many ?a_NoPlace ?ex_NoPlace_NoTie ?ex_NoTie_NoTie ?xc_NoPlace_ga ?xc_NoPlace_gh ?xc_NoPlace_be ?xc_NoPlace_cl ?xc_NoPlace_ha ?xc_NoPlace_hn ?xc_NoPlace_htk ?xc_NoPlace_hm ?kg_NoPlace ?kn_NoPlace ?xs_NoTie_at_sa ?xs_NoTie_at_ov ?xs_NoTie_at_tk ?xs_NoTie_at_hd ?xs_NoTie_at_na ?ex_NoPlace_NoPlace ?ex_NoTie_NoPlace ?kg_NoTie ?kn_NoTie ?kg_ValueError ?kn_ValueError ?a_CutError ?kg_CutError ?kn_CutError ?a_TooMany ?kg_TooMany ?kn_TooMany ?a_NoWeight ?kg_NoWeight ?kn_NoWeight ?a_NoLine ?kg_NoLine ?kn_NoLine ?kp_NoTie ?xt_NoTie ?i_NoTie__init ?l_NoTie__init ?c_NoTie__init ?k_NoTie__init ?g_NoTie__init ?q_NoPlace ?na_Web_ties ?na_Web_weights ?i_Web__init ?l_Web__init ?c_Web__init ?k_Web__init ?g_Web__init ?mk_Web ?kp_Web ?d_is_whole ?d_is_row ?d_common ?d_is_row_of ?d_has_amount_numbers ?d_is_in_parts ?d_is_weight ?d_is_place ?d_are_unlike_places ?d_is_between_places ?d_is_tie ?d_kept_ties ?d__law_alone ?d__law_found ?d__law_is_whole ?d__law_is_row ?d__law_least ?d__law_is_amount ?d__law_is_weight ?d__law_first_bad ?d__law_told ?d__law_stream ?d__law_take ?d__law_pick ?d__law_weight ?d__law_ties ?d__law_bent ?d__law_any ?d__law_bad_tie ?d__law_lists ?d_law
  (case z_ValueError => k_is)
  (case z_all => k_is)
  (case z_bool => k_is)
  (case z_enumerate => k_is)
  (case z_int => k_is)
  (case z_isinstance => k_is)
  (case z_len => k_is)
  (case z_list => k_is)
  (case z_range => k_is)
  (case z_sorted => k_is)
  (case z_tuple => k_is)
  (case u_MOST_ABOVE => k_is)
  (case u_BELOW => k_is)
  (case u_MOST_PLACES => k_is)
  (case a_NoTie => k_is)
  (case xc_NoTie_ga => k_is)
  (case xc_NoTie_gh => k_is)
  (case xc_NoTie_be => k_is)
  (case xc_NoTie_cl => kernel_rfl)
  (case xc_NoTie_ha => k_is)
  (case xc_NoTie_hn => k_is)
  (case xc_NoTie_htk => k_is)
  (case xc_NoTie_hm => k_is)
  (case a_Web => k_is)
  (case cl_Web_pg => kernel_rfl)
  (case cl_Web_hd => kernel_rfl)
  (case cl_Web_po => kernel_rfl)
  (case cl_Web_sa => k_is)
  (case na_Web_many => k_is)
  (case a_NoPlace => k_is)
  (case ex_NoPlace_NoTie => kernel_rfl)
  (case ex_NoTie_NoTie => kernel_rfl)
  (case xc_NoPlace_ga => k_is)
  (case xc_NoPlace_gh => k_is)
  (case xc_NoPlace_be => k_is)
  (case xc_NoPlace_cl => kernel_rfl)
  (case xc_NoPlace_ha => k_is)
  (case xc_NoPlace_hn => k_is)
  (case xc_NoPlace_htk => k_is)
  (case xc_NoPlace_hm => k_is)
  (case kg_NoPlace => kernel_rfl)
  (case kn_NoPlace => kernel_rfl)
  (case xs_NoTie_at_sa => k_is)
  (case xs_NoTie_at_ov => kernel_rfl)
  (case xs_NoTie_at_tk => kernel_rfl)
  (case xs_NoTie_at_hd => kernel_rfl)
  (case xs_NoTie_at_na => k_is)
  (case ex_NoPlace_NoPlace => kernel_rfl)
  (case ex_NoTie_NoPlace => kernel_rfl)
  (case kg_NoTie => kernel_rfl)
  (case kn_NoTie => kernel_rfl)
  (case kg_ValueError => kernel_rfl)
  (case kn_ValueError => kernel_rfl)
  (case a_CutError => k_is)
  (case kg_CutError => kernel_rfl)
  (case kn_CutError => kernel_rfl)
  (case a_TooMany => k_is)
  (case kg_TooMany => kernel_rfl)
  (case kn_TooMany => kernel_rfl)
  (case a_NoWeight => k_is)
  (case kg_NoWeight => kernel_rfl)
  (case kn_NoWeight => kernel_rfl)
  (case a_NoLine => k_is)
  (case kg_NoLine => kernel_rfl)
  (case kn_NoLine => kernel_rfl)
  (case kp_NoTie => k_is)
  (case xt_NoTie => kernel_rfl)
  (case i_NoTie__init => k_is)
  (case l_NoTie__init => k_is)
  (case c_NoTie__init => k_is)
  (case k_NoTie__init => k_is)
  (case g_NoTie__init => kernel_rfl)
  (case q_NoPlace => kernel_rfl)
  (case na_Web_ties => k_is)
  (case na_Web_weights => k_is)
  (case i_Web__init => k_is)
  (case l_Web__init => k_is)
  (case c_Web__init => k_is)
  (case k_Web__init => k_is)
  (case g_Web__init => kernel_rfl)
  (case mk_Web => kernel_rfl)
  (case kp_Web => k_is)
  (case d_is_whole => exact L2.def_mk KX G (by k_is) (by k_is) (by k_is) (by k_is))
  (case d_is_row => exact L2.def_mk KX G (by k_is) (by k_is) (by k_is) (by k_is))
  (case d_common => exact L2.def_mk KX G (by k_is) (by k_is) (by k_is) (by k_is))
  (case d_is_row_of => exact L2.def_mk KX G (by k_is) (by k_is) (by k_is) (by k_is))
  (case d_has_amount_numbers => exact L2.def_mk KX G (by k_is) (by k_is) (by k_is) (by k_is))
  (case d_is_in_parts => exact L2.def_mk KX G (by k_is) (by k_is) (by k_is) (by k_is))
  (case d_is_weight => exact L2.def_mk KX G (by k_is) (by k_is) (by k_is) (by k_is))
  (case d_is_place => exact L2.def_mk KX G (by k_is) (by k_is) (by k_is) (by k_is))
  (case d_are_unlike_places => exact L2.def_mk KX G (by k_is) (by k_is) (by k_is) (by k_is))
  (case d_is_between_places => exact L2.def_mk KX G (by k_is) (by k_is) (by k_is) (by k_is))
  (case d_is_tie => exact L2.def_mk KX G (by k_is) (by k_is) (by k_is) (by k_is))
  (case d_kept_ties => exact L2.def_mk KX G (by k_is) (by k_is) (by k_is) (by k_is))
  (case d__law_alone => exact L2.def_mk KX G (by k_is) (by k_is) (by k_is) (by k_is))
  (case d__law_found => exact L2.def_mk KX G (by k_is) (by k_is) (by k_is) (by k_is))
  (case d__law_is_whole => exact L2.def_mk KX G (by k_is) (by k_is) (by k_is) (by k_is))
  (case d__law_is_row => exact L2.def_mk KX G (by k_is) (by k_is) (by k_is) (by k_is))
  (case d__law_least => exact L2.def_mk KX G (by k_is) (by k_is) (by k_is) (by k_is))
  (case d__law_is_amount => exact L2.def_mk KX G (by k_is) (by k_is) (by k_is) (by k_is))
  (case d__law_is_weight => exact L2.def_mk KX G (by k_is) (by k_is) (by k_is) (by k_is))
  (case d__law_first_bad => exact L2.def_mk KX G (by k_is) (by k_is) (by k_is) (by k_is))
  (case d__law_told => exact L2.def_mk KX G (by k_is) (by k_is) (by k_is) (by k_is))
  (case d__law_stream => exact L2.def_mk KX G (by k_is) (by k_is) (by k_is) (by k_is))
  (case d__law_take => exact L2.def_mk KX G (by k_is) (by k_is) (by k_is) (by k_is))
  (case d__law_pick => exact L2.def_mk KX G (by k_is) (by k_is) (by k_is) (by k_is))
  (case d__law_weight => exact L2.def_mk KX G (by k_is) (by k_is) (by k_is) (by k_is))
  (case d__law_ties => exact L2.def_mk KX G (by k_is) (by k_is) (by k_is) (by k_is))
  (case d__law_bent => exact L2.def_mk KX G (by k_is) (by k_is) (by k_is) (by k_is))
  (case d__law_any => exact L2.def_mk KX G (by k_is) (by k_is) (by k_is) (by k_is))
  (case d__law_bad_tie => exact L2.def_mk KX G (by k_is) (by k_is) (by k_is) (by k_is))
  (case d__law_lists => exact L2.def_mk KX G (by k_is) (by k_is) (by k_is) (by k_is))
  (case d_law => exact L2.def_mk KX G (by k_is) (by k_is) (by k_is) (by k_is))